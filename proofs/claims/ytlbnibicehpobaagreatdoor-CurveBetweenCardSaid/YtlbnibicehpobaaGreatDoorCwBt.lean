/- CwBt: CwD, CwE, CwG, CwL, joined. -/
import Derived.Test.YtlbnibicehpobaaGreatDoorCwABC
set_option linter.unusedVariables false
set_option linter.unusedSimpArgs false

/- Law 9: the examples of the chapter. -/
namespace Go.Proofs.YtlbnibicehpobaaGreatDoor
open Go.RowKit Go.Shelf
open Z
theorem lit_at {l : Pts} {s u : ByteArray} (h : cvC l = 0) (hs : chkS s = 0) (hl : lvlQ (rv s) = true) (hu : chkS u = 0) (he : valC l (rv s) = rv u) : atC l s = (u, 0) := by
  unfold atC
  rw [if_neg (by simp [h]), if_neg (by unfold compE; rw [if_pos hs, if_pos hl]; simp), he, RT_rv hu]
def exC : Pts := [(0, 0), (20000, 60000), (65535, 65535)]
def exI : Pts := [(0, 0), (60000, 20000), (65535, 65535)]
def exD : Pts := [(0, 0), (100, 0), (65535, 65535)]
def exT : Pts := [(0, 0), (10, 20), (20, 40), (65535, 40)]
def exU : Pts := [(0, 0), (20, 40), (65535, 40)]
theorem ex1 : atC exC ⟨#[49, 48, 48, 48, 48]⟩ = (⟨#[51, 48, 48, 48, 48]⟩, 0) := lit_at (by decide +kernel) (by decide +kernel) (by decide +kernel) (by decide +kernel) (by decide +kernel)
theorem ex2 : atC exC ⟨#[50, 48, 48, 48, 48]⟩ = (⟨#[54, 48, 48, 48, 48]⟩, 0) := lit_at (by decide +kernel) (by decide +kernel) (by decide +kernel) (by decide +kernel) (by decide +kernel)
theorem ex3 : atC exC ⟨#[49, 47, 51]⟩ = (⟨#[49]⟩, 0) := lit_at (by decide +kernel) (by decide +kernel) (by decide +kernel) (by decide +kernel) (by decide +kernel)
theorem ex4 : invC exC = (exI, 0) := by decide +kernel
theorem ex5 : invC exD = ([], 16) := by decide +kernel
theorem ex6 : tidyC exT = (exU, 0) := by decide +kernel
theorem exJ : (∀ p ∈ exC, isJ p.1 ∧ isJ p.2) ∧ (∀ p ∈ exD, isJ p.1 ∧ isJ p.2) ∧ ∀ p ∈ exT, isJ p.1 ∧ isJ p.2 := by
  unfold isJ
  decide
theorem pts3 (w : World) (a b c d e f : Int) : PtAt (w.alloc (.cells #[.int .i64 a, .int .i64 b, .int .i64 c, .int .i64 d, .int .i64 e, .int .i64 f] 52)) (some ⟨w.heap.size, 0, none⟩) [(a, b), (c, d), (e, f)] := .inr ⟨_, _, rfl, fun j hj => by
  have h : j = 0 ∨ j = 1 ∨ j = 2 := by simp at hj; omega
  rcases h with rfl | rfl | rfl
  all_goals exact ⟨by rw [World.cell?_alloc_at _ _ _ _ rfl]; rfl, by rw [World.cell?_alloc_at _ _ _ _ rfl]; rfl⟩⟩
theorem pts4 (w : World) (a b c d e f g h : Int) : PtAt (w.alloc (.cells #[.int .i64 a, .int .i64 b, .int .i64 c, .int .i64 d, .int .i64 e, .int .i64 f, .int .i64 g, .int .i64 h] 52)) (some ⟨w.heap.size, 0, none⟩) [(a, b), (c, d), (e, f), (g, h)] := .inr ⟨_, _, rfl, fun j hj => by
  have h : j = 0 ∨ j = 1 ∨ j = 2 ∨ j = 3 := by simp at hj; omega
  rcases h with rfl | rfl | rfl | rfl
  all_goals exact ⟨by rw [World.cell?_alloc_at _ _ _ _ rfl]; rfl, by rw [World.cell?_alloc_at _ _ _ _ rfl]; rfl⟩⟩
section
variable {w0 : World} (htab : Tab w0) (hmx : Mx w0) (herr : ErrR w0)
theorem aw_Inv {w : World} {a : Option Addr} {L M : Pts} {n c : Nat} {E : Int} (hp : PtAt w a L) (hn : L.length = n) (hJ : ∀ p ∈ L, isJ p.1 ∧ isJ p.2) (hnc : n ≤ c) (hc : c ≤ maxLen) (hn2 : n ≤ 100) (h : invC L = (M, E)) :
    Calls Tryz.prog 25 #[.slice a n c] w fun e w' => ∃ a' c', e = .returned (.tuple #[.slice a' M.length c', .int .i64 E]) ∧ PtAt w' a' M ∧ Gr w w' := by
  subst hn
  have := cv_Inverse a L c w hp hJ hnc hc (by omega)
  rw [h] at this
  refine this.mono ?_
  rintro e w' ⟨v, rfl, ho, hg⟩
  obtain ⟨a', c', rfl, hp'⟩ := ho.shape
  exact ⟨a', c', rfl, hp', hg⟩
theorem aw_Tid {w : World} {a : Option Addr} {L M : Pts} {n c : Nat} {E : Int} (hp : PtAt w a L) (hn : L.length = n) (hJ : ∀ p ∈ L, isJ p.1 ∧ isJ p.2) (hnc : n ≤ c) (hc : c ≤ maxLen) (hn2 : n ≤ 100) (h : tidyC L = (M, E)) :
    Calls Tryz.prog 29 #[.slice a n c] w fun e w' => ∃ a' c', e = .returned (.tuple #[.slice a' M.length c', .int .i64 E]) ∧ PtAt w' a' M ∧ Gr w w' := by
  subst hn
  have := cv_Tidy a L c w hp hJ hnc hc (by omega)
  rw [h] at this
  refine this.mono ?_
  rintro e w' ⟨v, rfl, ho, hg⟩
  obtain ⟨a', c', rfl, hp'⟩ := ho.shape
  exact ⟨a', c', rfl, hp', hg⟩
include htab hmx herr
theorem aw_At {w : World} (hg0 : Gr w0 w) {a : Option Addr} {L : Pts} {n c : Nat} {s u : ByteArray} {E : Int} (hp : PtAt w a L) (hn : L.length = n) (hJ : ∀ p ∈ L, isJ p.1 ∧ isJ p.2) (hn2 : n ≤ 100) (hs : s.size ≤ 2000) (h : atC L s = (u, E)) :
    Calls Tryz.prog 13 #[.slice a n c, .string s] w fun e w' => e = .returned (.tuple #[.string u, .int .i64 E]) ∧ Gr w w' := by
  subst hn
  have := cv_At (cap := c) htab hmx herr w hg0 hp hJ (by omega) hs
  rw [h] at this
  exact this
set_option maxHeartbeats 8000000 in
set_option maxRecDepth 100000 in
theorem l9_awake : Ret w0 12 #[] (.bool true) := by
  have A1 := Lib.hid (fun (w : World) (hg0 : Gr w0 w) (a : Option Addr) (hp : PtAt w a exC) => aw_At (c := 3) (n := 3) htab hmx herr hg0 hp rfl exJ.1 (by omega) (by decide) ex1)
  have A2 := Lib.hid (fun (w : World) (hg0 : Gr w0 w) (a : Option Addr) (hp : PtAt w a exC) => aw_At (c := 3) (n := 3) htab hmx herr hg0 hp rfl exJ.1 (by omega) (by decide) ex2)
  have A3 := Lib.hid (fun (w : World) (hg0 : Gr w0 w) (a : Option Addr) (hp : PtAt w a exC) => aw_At (c := 3) (n := 3) htab hmx herr hg0 hp rfl exJ.1 (by omega) (by decide) ex3)
  have I1 := Lib.hid (fun (w : World) (a : Option Addr) (hp : PtAt w a exC) => aw_Inv (c := 3) (n := 3) hp rfl exJ.1 (by omega) (by unfold maxLen; omega) (by omega) ex4)
  have I2 := Lib.hid (fun (w : World) (a : Option Addr) (hp : PtAt w a exD) => aw_Inv (c := 3) (n := 3) hp rfl exJ.2.1 (by omega) (by unfold maxLen; omega) (by omega) ex5)
  have T1 := Lib.hid (fun (w : World) (a : Option Addr) (hp : PtAt w a exT) => aw_Tid (c := 4) (n := 4) hp rfl exJ.2.2 (by omega) (by unfold maxLen; omega) (by omega) ex6)
  have S1 := Lib.hid (fun (w : World) (a b : Option Addr) (c : Nat) (hp : PtAt w a exI) (hq : PtAt w b exI) => (by
    have := r9_Same a b exI exI c 3 w hp hq (by decide) (by decide)
    rwa [decide_eq_true rfl] at this : Calls Tryz.prog 17 #[.slice a 3 c, .slice b 3 3] w fun e w' => e = .returned (.bool true) ∧ Gr w w'))
  have S2 := Lib.hid (fun (w : World) (a b : Option Addr) (c : Nat) (hp : PtAt w a exU) (hq : PtAt w b exU) => (by
    have := r9_Same a b exU exU c 3 w hp hq (by decide) (by decide)
    rwa [decide_eq_true rfl] at this : Calls Tryz.prog 17 #[.slice a 3 c, .slice b 3 3] w fun e w' => e = .returned (.bool true) ∧ Gr w w'))
  have P1 : Hid (∀ w : World, PtAt (w.alloc (.cells #[.int .i64 0, .int .i64 0, .int .i64 20000, .int .i64 60000, .int .i64 65535, .int .i64 65535] 52)) (some ⟨w.heap.size, 0, none⟩) exC) := Lib.hid fun w => pts3 w _ _ _ _ _ _
  have P2 : Hid (∀ w : World, PtAt (w.alloc (.cells #[.int .i64 0, .int .i64 0, .int .i64 100, .int .i64 0, .int .i64 65535, .int .i64 65535] 52)) (some ⟨w.heap.size, 0, none⟩) exD) := Lib.hid fun w => pts3 w _ _ _ _ _ _
  have P3 : Hid (∀ w : World, PtAt (w.alloc (.cells #[.int .i64 0, .int .i64 0, .int .i64 10, .int .i64 20, .int .i64 20, .int .i64 40, .int .i64 65535, .int .i64 40] 52)) (some ⟨w.heap.size, 0, none⟩) exT) := Lib.hid fun w => pts4 w _ _ _ _ _ _ _ _
  have P4 : Hid (∀ w : World, PtAt (w.alloc (.cells #[.int .i64 0, .int .i64 0, .int .i64 60000, .int .i64 20000, .int .i64 65535, .int .i64 65535] 52)) (some ⟨w.heap.size, 0, none⟩) exI) := Lib.hid fun w => pts3 w _ _ _ _ _ _
  have P5 : Hid (∀ w : World, PtAt (w.alloc (.cells #[.int .i64 0, .int .i64 0, .int .i64 20, .int .i64 40, .int .i64 65535, .int .i64 40] 52)) (some ⟨w.heap.size, 0, none⟩) exU) := Lib.hid fun w => pts3 w _ _ _ _ _ _
  have lI : exI.length = 3 := rfl
  have lU : exU.length = 3 := rfl
  rw [lI] at I1
  rw [lU] at T1
  generalize exC = C at *
  generalize exI = I at *
  generalize exD = D at *
  generalize exT = T at *
  generalize exU = U at *
  clear htab hmx herr lI lU
  intro w hg
  have HG := Lib.hid (hg.alloc (.cells #[.int .i64 0, .int .i64 0, .int .i64 20000, .int .i64 60000, .int .i64 65535, .int .i64 65535] 52))
  have HC := Lib.hid (P1.out w)
  clear hg
  go_enter Tryz.func12, Tryz.ntmps12
  go_wp2_with fail
  refine (A1.out _ HG.out _ HC.out).mono ?_; rintro e w1 ⟨rfl, hg⟩
  have HG1 := Lib.hid (Gr.trans HG.out hg)
  have HC1 := Lib.hid (HC.out.gr hg)
  clear hg A1
  go_wp2_with fail
  refine (A2.out _ HG1.out _ HC1.out).mono ?_; rintro e w2 ⟨rfl, hg⟩
  have HG2 := Lib.hid (Gr.trans HG1.out hg)
  have HC2 := Lib.hid (HC1.out.gr hg)
  clear hg A2
  go_wp2_with fail
  refine (A3.out _ HG2.out _ HC2.out).mono ?_; rintro e w3 ⟨rfl, hg⟩
  have HG3 := Lib.hid (Gr.trans HG2.out hg)
  have HC3 := Lib.hid (HC2.out.gr hg)
  clear hg A3
  go_wp2_with fail
  refine (I1.out _ _ HC3.out).mono ?_; rintro e w4 ⟨ai, ci, rfl, hi, hg⟩
  have HG4 := Lib.hid ((Gr.trans HG3.out hg).alloc (.cells #[.int .i64 0, .int .i64 0, .int .i64 100, .int .i64 0, .int .i64 65535, .int .i64 65535] 52))
  have HI4 := Lib.hid (hi.gr ((Gr.refl w4).alloc (.cells #[.int .i64 0, .int .i64 0, .int .i64 100, .int .i64 0, .int .i64 65535, .int .i64 65535] 52)))
  have HD4 := Lib.hid (P2.out w4)
  clear hg hi I1
  go_wp2_with fail
  refine (I2.out _ _ HD4.out).mono ?_; rintro e w5 ⟨aj, cj, rfl, -, hg⟩
  have HG5 := Lib.hid ((Gr.trans HG4.out hg).alloc (.cells #[.int .i64 0, .int .i64 0, .int .i64 10, .int .i64 20, .int .i64 20, .int .i64 40, .int .i64 65535, .int .i64 40] 52))
  have HI5 := Lib.hid ((HI4.out.gr hg).gr ((Gr.refl w5).alloc (.cells #[.int .i64 0, .int .i64 0, .int .i64 10, .int .i64 20, .int .i64 20, .int .i64 40, .int .i64 65535, .int .i64 40] 52)))
  have HT5 := Lib.hid (P3.out w5)
  clear hg I2
  go_wp2_with fail
  refine (T1.out _ _ HT5.out).mono ?_; rintro e w6 ⟨at', ct, rfl, ht, hg⟩
  have HG6 := Lib.hid ((Gr.trans HG5.out hg).alloc (.cells #[.int .i64 0, .int .i64 0, .int .i64 60000, .int .i64 20000, .int .i64 65535, .int .i64 65535] 52))
  have HI6 := Lib.hid ((HI5.out.gr hg).gr ((Gr.refl w6).alloc (.cells #[.int .i64 0, .int .i64 0, .int .i64 60000, .int .i64 20000, .int .i64 65535, .int .i64 65535] 52)))
  have HU6 := Lib.hid (ht.gr ((Gr.refl w6).alloc (.cells #[.int .i64 0, .int .i64 0, .int .i64 60000, .int .i64 20000, .int .i64 65535, .int .i64 65535] 52)))
  have HJ6 := Lib.hid (P4.out w6)
  clear hg ht T1
  go_wp2_with fail
  refine (S1.out _ _ _ _ HI6.out HJ6.out).mono ?_; rintro e w7 ⟨rfl, hg⟩
  have HG7 := Lib.hid ((Gr.trans HG6.out hg).alloc (.cells #[.int .i64 0, .int .i64 0, .int .i64 20, .int .i64 40, .int .i64 65535, .int .i64 40] 52))
  have HU7 := Lib.hid ((HU6.out.gr hg).gr ((Gr.refl w7).alloc (.cells #[.int .i64 0, .int .i64 0, .int .i64 20, .int .i64 40, .int .i64 65535, .int .i64 40] 52)))
  have HV7 := Lib.hid (P5.out w7)
  clear hg S1
  go_wp2_with fail
  refine (S2.out _ _ _ _ HU7.out HV7.out).mono ?_; rintro e w8 ⟨rfl, hg⟩
  have HG8 := Lib.hid (Gr.trans HG7.out hg)
  clear hg S2
  go_wp2
  go_ret
  exact ⟨rfl, HG8.out⟩
end
end Go.Proofs.YtlbnibicehpobaaGreatDoor

/- Law 9: CurveChecks, CurveChanges, CurveChains. -/
namespace Go.Proofs.YtlbnibicehpobaaGreatDoor
open Go.RowKit Go.Shelf
open Z
theorem cw_beq (s : ByteArray) : (s.toList == s.toList) = true := by simp
section
variable {w0 : World} (htab : Tab w0) (hmx : Mx w0) (herr : ErrR w0)
include htab hmx herr
end
end Go.Proofs.YtlbnibicehpobaaGreatDoor

/- Law 9: right; what is asked of a right curve. -/
namespace Go.Proofs.YtlbnibicehpobaaGreatDoor.Z
open Go
def rightC (l : Pts) (s : ByteArray) : Bool := decide (l.length ≤ 40) && (decide (s.size ≤ 120) && ((atC l s).2 == 0))
theorem rightC_true {l : Pts} {s : ByteArray} (h : rightC l s = true) : Cv l ∧ ∃ r : Rat, s = RT r ∧ Sh 120 r ∧ lvlQ r = true := by
  unfold rightC at h
  simp only [Bool.and_eq_true, decide_eq_true_eq, beq_iff_eq] at h
  obtain ⟨-, h120, h⟩ := h
  unfold atC at h
  by_cases hc : cvC l = 0
  · rw [if_neg (by simp [hc])] at h
    by_cases he : compE s = 0
    · obtain ⟨a, ha, -, hl⟩ := compE_zero he
      have hk : chkS s = 0 := by
        by_cases hk : chkS s = 0
        · exact hk
        · rw [compE_err hk] at he; exact absurd he hk
      obtain ⟨r, hr, hs, -⟩ := text_sh hk h120
      have : a = r := RT_inj (ha.symm.trans hr)
      subst this
      exact ⟨(cvC_iff _).1 hc, a, hr, hs, hl⟩
    · rw [if_pos he] at h; exact absurd h he
  · rw [if_pos hc] at h; exact absurd h hc
theorem atC_right {l : Pts} {r : Rat} {k : Nat} (hc : Cv l) (hl : lvlQ r = true) (hs : Sh k r) (hk : k ≤ 4096) : atC l (RT r) = (RT (valC l r), 0) := by
  unfold atC
  rw [if_neg (by simp [(cvC_iff l).2 hc]), if_neg (by rw [compE_RT (hs.inR hk), if_pos hl]; decide), rv_RT]
theorem Cv.isJ {l : Pts} (h : Cv l) : ∀ p ∈ l, isJ p.1 ∧ isJ p.2 := fun p hp => by
  obtain ⟨⟨a, b⟩, c, d⟩ := h.lv p hp
  unfold Go.Proofs.YtlbnibicehpobaaGreatDoor.isJ
  omega
end Go.Proofs.YtlbnibicehpobaaGreatDoor.Z
namespace Go.Proofs.YtlbnibicehpobaaGreatDoor
open Go.RowKit Go.Shelf
open Z
/-- a slice of memory that reads as a list of points, with its room -/
def Cu (w : World) (a : Option Addr) (n c : Nat) (l : Pts) : Prop := PtAt w a l ∧ l.length = n ∧ n ≤ c ∧ c ≤ maxLen
theorem Cu.gr {w w' : World} {a : Option Addr} {n c : Nat} {l : Pts} (h : Cu w a n c l) (hg : Gr w w') : Cu w' a n c l := ⟨h.1.gr hg, h.2⟩
section
variable {w0 : World}
set_option maxHeartbeats 4000000 in
set_option maxRecDepth 100000 in
theorem l9_right {a : Option Addr} {cap : Nat} {l : Pts} {s : ByteArray} (w : World) (hg0 : Gr w0 w) (hp : PtAt w a l) (hJ : ∀ p ∈ l, isJ p.1 ∧ isJ p.2) (hlen : l.length ≤ 10000000000000) (hs : s.size ≤ maxLen) :
    Calls Tryz.prog 31 #[.slice a l.length cap, .string s] w fun e w' => e = .returned (.bool (rightC l s)) ∧ Gr w w' := by
  have HF := Lib.hid (RetG.of4 (w0 := w0) fun w1 _ => ret_Few2 (w0 := w1) hs)
  have CF := Lib.hid (fun w => r9_Few a l.length cap w)
  unfold rightC
  by_cases h40 : l.length ≤ 40
  · rw [decide_eq_true h40] at CF ⊢
    by_cases h120 : s.size ≤ 120
    · rw [decide_eq_true h120] at HF ⊢
      have C2 := Lib.hid (fun w1 (hg : Gr w w1) => r9_At (cap := cap) w1 (hp.gr hg) hJ hlen (s := s) (by omega))
      obtain ⟨A, hA⟩ : ∃ A, atC l s = A := ⟨_, rfl⟩
      rw [hA] at C2 ⊢
      obtain ⟨A1, A2⟩ := A
      unfold vSI at C2
      simp only [] at C2
      generalize l.length = n at *
      have HG := Lib.hid hg0
      clear hp hJ hA hg0
      go_enter Tryz.func31, Tryz.ntmps31
      go_wp2_with fail
      refine (CF.out _).mono ?_; rintro e w1 ⟨rfl, rfl⟩
      go_wp2_with fail
      refine (HF.out _ HG.out).mono ?_; rintro e w2 ⟨rfl, hg⟩
      have HG2 := Lib.hid hg; clear hg
      go_wp2_with fail
      refine (C2.out _ HG2.out).mono ?_; rintro e w3 ⟨rfl, hg⟩
      have HG3 := Lib.hid (Gr.trans HG2.out hg); clear hg C2 CF HF
      go_wp2
      go_ret
      exact ⟨rfl, HG3.out⟩
    · rw [decide_eq_false h120] at HF ⊢
      generalize l.length = n at *
      have HG := Lib.hid hg0
      clear hp hJ hg0
      go_enter Tryz.func31, Tryz.ntmps31
      go_wp2_with fail
      refine (CF.out _).mono ?_; rintro e w1 ⟨rfl, rfl⟩
      go_wp2_with fail
      refine (HF.out _ HG.out).mono ?_; rintro e w2 ⟨rfl, hg⟩
      have HG2 := Lib.hid hg; clear hg CF HF
      go_wp2
      go_ret
      exact ⟨rfl, HG2.out⟩
  · rw [decide_eq_false h40] at CF ⊢
    generalize l.length = n at *
    clear hp hJ hg0
    go_enter Tryz.func31, Tryz.ntmps31
    go_wp2_with fail
    refine (CF.out _).mono ?_; rintro e w1 ⟨rfl, rfl⟩
    go_wp2
    go_ret
    exact ⟨rfl, Gr.refl _⟩
variable (htab : Tab w0) (hmx : Mx w0) (herr : ErrR w0)
include htab hmx herr in
theorem ok_At {a : Option Addr} {n cap k : Nat} {l : Pts} {r : Rat} (w : World) (hg : Gr w0 w) (hp : Cu w a n cap l) (hc : Cv l) (hl : lvlQ r = true) (hs : Sh k r) (hk : k ≤ 900) :
    Calls Tryz.prog 13 #[.slice a n cap, .string (RT r)] w fun e w' => e = .returned (.tuple #[.string (RT (valC l r)), .int .i64 0]) ∧ Gr w w' := by
  obtain ⟨hp, rfl, -, -⟩ := hp
  have h := cv_At (cap := cap) htab hmx herr w hg hp hc.isJ (by have := hc.most; omega) (s := RT r) (by have := RT_size hs; omega)
  rwa [atC_right hc hl hs (by omega)] at h
end
end Go.Proofs.YtlbnibicehpobaaGreatDoor

/- Law 9: CurveBetween. -/
namespace Go.Proofs.YtlbnibicehpobaaGreatDoor.Z
open Go
theorem between_pts {l : Pts} (hc : Cv l) {r : Rat} {j : Nat} (h : j + 1 < l.length) (h0 : ¬ cmpQ r ((l[j].1 : Int) : Rat) < 0) (h1 : ¬ 0 < cmpQ r ((l[j + 1].1 : Int) : Rat)) :
    ¬ cmpQ (valC l r) ((min l[j].2 l[j + 1].2 : Int) : Rat) < 0 ∧ ¬ 0 < cmpQ (valC l r) ((max l[j].2 l[j + 1].2 : Int) : Rat) := by
  have a0 : ((l[j].1 : Int) : Rat) ≤ r := by
    rw [← Rat.not_lt]; intro hl; rw [cmpQ_lt hl] at h0; exact h0 (by decide)
  have a1 : r ≤ ((l[j + 1].1 : Int) : Rat) := by
    rw [← Rat.not_lt]; intro hl; rw [cmpQ_gt hl] at h1; exact h1 (by decide)
  rw [valC_at hc.asc (⟨h, a0, a1⟩ : IsSeg l r j)]
  obtain ⟨b0, b1⟩ := seg_between (hc.asc j h) a0 a1
  constructor
  · rcases cmpQ_cases (segV l[j] l[j + 1] r) ((min l[j].2 l[j + 1].2 : Int) : Rat) with ⟨x, -, -⟩ | ⟨-, x, -⟩ | ⟨-, x, -⟩
    · exact absurd x (Rat.not_lt.2 b0)
    · rw [x]; decide
    · rw [x]; decide
  · rcases cmpQ_cases (segV l[j] l[j + 1] r) ((max l[j].2 l[j + 1].2 : Int) : Rat) with ⟨-, x, -⟩ | ⟨-, x, -⟩ | ⟨x, -, -⟩
    · rw [x]; decide
    · rw [x]; decide
    · exact absurd x (Rat.not_lt.2 b1)
end Go.Proofs.YtlbnibicehpobaaGreatDoor.Z
namespace Go.Proofs.YtlbnibicehpobaaGreatDoor
open Go.RowKit Go.Shelf
open Z
theorem exec_min2 {o : Oper} {ev : Operand → Value} {w : World} {p q : Operand} {x y : Int} (ho : o.op = .call { callee := .builtin .min, args := #[p, q], argTypes := #[3, 3] })
    (hp : ev p = .int .i64 x) (hq : ev q = .int .i64 y) : (execOp ev o).run Tryz.prog w = .ok (.value (.int .i64 (min x y))) w := by
  unfold execOp
  rw [ho]
  simp [hp, hq, go_sem]
  first | done | (split <;> omega)
theorem exec_max2 {o : Oper} {ev : Operand → Value} {w : World} {p q : Operand} {x y : Int} (ho : o.op = .call { callee := .builtin .max, args := #[p, q], argTypes := #[3, 3] })
    (hp : ev p = .int .i64 x) (hq : ev q = .int .i64 y) : (execOp ev o).run Tryz.prog w = .ok (.value (.int .i64 (max x y))) w := by
  unfold execOp
  rw [ho]
  simp [hp, hq, go_sem]
  first | done | (split <;> omega)
theorem P2.gr {w w' : World} {n : Nat} {f t : Int} (h : P2 w n f t) (hg : Gr w w') : P2 w' n f t := h.gr0 hg
theorem one_new (W : World) (f t : Int) (ty : TypeId) : P2 (W.alloc (.cells #[.int .i64 f, .int .i64 t] ty)) W.heap.size f t :=
  ⟨by rw [World.cell?_alloc_at _ _ _ _ rfl]; rfl, by rw [World.cell?_alloc_at _ _ _ _ rfl]; rfl⟩
section
variable {w0 : World} (htab : Tab w0) (hmx : Mx w0) (herr : ErrR w0)
include htab hmx herr
set_option maxHeartbeats 8000000 in
set_option maxRecDepth 100000 in
theorem l9_CurveBetween {a : Option Addr} {cap : Nat} {l : Pts} {s : ByteArray} (hp : PtAt w0 a l) (hJ : ∀ p ∈ l, isJ p.1 ∧ isJ p.2) (hlc : l.length ≤ cap) (hcm : cap ≤ maxLen) (hlen : l.length ≤ 10000000000000) (hs : s.size ≤ maxLen) : Ret w0 6 #[.slice a l.length cap, .string s] (.bool true) := by
  have AW := Lib.hid (RetG.of4 (w0 := w0) fun w1 h => l9_awake (htab_gr htab h) (hmx.gr h) (herr.gr h))
  have RI := Lib.hid (fun w (hg : Gr w0 w) => l9_right (cap := cap) w hg (hp.gr hg) hJ hlen hs)
  by_cases hr : rightC l s = true
  · rw [hr] at RI
    obtain ⟨hc, r, rfl, hsh, hl⟩ := rightC_true hr
    have h16 := hc.most
    have h2 := hc.two
    have hsy := cv_shV hc hl hsh
    have hCu : Cu w0 a l.length cap l := ⟨hp, rfl, hlc, hcm⟩
    have A1 := Lib.hid (fun w (hg : Gr w0 w) => ok_At htab hmx herr w hg (hCu.gr hg) hc hl hsh (by omega))
    have AT := Lib.hid (fun n' (hn' : l.length = n') j (hj : j < l.length) w (hg : Gr w0 w) => ok_At (n := n') htab hmx herr w hg (show Cu w a n' cap l from ⟨hp.gr hg, hn', by omega, hcm⟩) hc (lvlQ_int (hc.lv _ (List.getElem_mem hj)).1.1 (hc.lv _ (List.getElem_mem hj)).1.2) (sh_lvl (hc.lv _ (List.getElem_mem hj)).1.1 (hc.lv _ (List.getElem_mem hj)).1.2) (by omega))
    have AT := Lib.hid (fun n' (hn' : l.length = n') j (hj : j < l.length) w (hg : Gr w0 w) => by
      have h := AT.out n' hn' j hj w hg
      rw [valC_knot hc.asc h2 hj, RT_int, RT_int] at h
      exact h)
    have K1 := Lib.hid (RetG.of4 (w0 := w0) fun w1 _ => r2_Check (w0 := w1) (RT (valC l r)) (by have := RT_size hsy; omega))
    rw [chkS_RT (hsy.inR (by omega))] at K1
    have WH := Lib.hid (fun (x : Int) (h0 : 0 ≤ x) (h1 : x ≤ 65535) => RetG.of4 (w0 := w0) fun w1 _ => ret_Whole2 (w0 := w1) (n := x) (by omega) (by omega))
    have OR := Lib.hid (fun (x : Int) (h0 : 0 ≤ x) (h1 : x ≤ 65535) => RetG.of4 (w0 := w0) fun w1 _ => by
      have h := ret_OrderR (w0 := w1) hsh (sh_lvl h0 h1) (by omega) (by omega)
      rw [RT_int] at h; exact h)
    have OY := Lib.hid (fun (x : Int) (h0 : 0 ≤ x) (h1 : x ≤ 65535) => RetG.of4 (w0 := w0) fun w1 _ => by
      have h := ret_OrderR (w0 := w1) hsy (sh_lvl h0 h1) (by omega) (by omega)
      rw [RT_int] at h; exact h)
    obtain ⟨b, off, rfl, hcell⟩ := hp.block (by omega)
    have HC := Lib.hid hcell
    have HB := Lib.hid (fun j (h : j + 1 < l.length) => between_pts hc (r := r) h)
    have HV := Lib.hid (fun j (hj : j < l.length) => hc.lv _ (List.getElem_mem hj))
    obtain ⟨n, hn⟩ : ∃ n, l.length = n := ⟨_, rfl⟩
    have HN := Lib.hid hn
    have AT := Lib.hid (AT.out n hn)
    rw [hn] at h16 h2 RI A1 ⊢
    generalize RT (valC l r) = Y at *
    generalize RT r = R at *
    generalize valC l r = vy at *
    clear htab hmx herr hp hJ hs hr hsh hl hc hsy hlc hcm hlen hCu hcell hn
    intro w hg
    have HG0 := Lib.hid hg
    clear hg
    go_enter Tryz.func6, Tryz.ntmps6
    go_wp2_with fail
    refine (RI.out _ HG0.out).mono ?_; rintro e w1 ⟨rfl, hg⟩
    have HG1 := Lib.hid (Gr.trans HG0.out hg)
    clear hg HG0 
    go_wp2_with fail
    refine (A1.out _ HG1.out).mono ?_; rintro e w2 ⟨rfl, hg⟩
    have HG2 := Lib.hid (Gr.trans HG1.out hg)
    clear hg HG1 
    go_wp2_with fail
    refine (K1.out _ HG2.out).mono ?_; rintro e w3 ⟨rfl, hg⟩
    have HG3 := Lib.hid (Gr.trans HG2.out hg)
    clear hg HG2 
    clear RI A1 K1
    go_wp2
    go_loopw [33] (fun i wr => ∃ j : Nat, i = .int .i64 j ∧ j ≤ n ∧ Hid (Gr w0 wr)) (fun i _ => n - (intOf i).toNat)
    case atStart => exact ⟨0, rfl, Nat.zero_le _, HG3⟩
    case round =>
      obtain ⟨j, rfl, hj, HG⟩ := hrel
      by_cases hlt : j < n
      · have l0 : j < l.length := by rw [HN.out]; exact hlt
        obtain ⟨e0, e1⟩ := HC.out j l0
        have d0 := cv_cell HG.out e0
        have d1 := cv_cell HG.out e1
        obtain ⟨⟨x0, x1⟩, y0, y1⟩ := HV.out j l0
        have ATj := Lib.hid (AT.out j l0)
        have hbeq := cw_beq (Tx l[j].2)
        have HPT := Lib.hid (one_new wr l[j].1 l[j].2 52)
        by_cases hj0 : j = 0
        · have kj : ((j : Int) == 0) = true := by rw [beq_iff_eq]; omega
          clear hj0
          go_wp2_with fail
          have HA0 := Lib.hid (HG.out.alloc (.cells #[.int .i64 l[j].1, .int .i64 l[j].2] 52))
          refine (WH.out _ x0 x1 _ HA0.out).mono ?_; rintro e w4 ⟨rfl, hg⟩
          have HG4 := Lib.hid (Gr.trans HA0.out hg)
          have PT_4 := Lib.hid (HPT.out.gr0 hg)
          clear hg d0 d1 HPT HA0
          go_wp2_with fail
          refine (ATj.out _ HG4.out).mono ?_; rintro e w5 ⟨rfl, hg⟩
          have HG5 := Lib.hid (Gr.trans HG4.out hg)
          have PT_5 := Lib.hid (PT_4.out.gr hg)
          clear hg HG4 PT_4
          have c1 := PT_5.out.c1
          go_wp2_with fail
          clear c1
          refine (WH.out _ y0 y1 _ HG5.out).mono ?_; rintro e w6 ⟨rfl, hg⟩
          have HG6 := Lib.hid (Gr.trans HG5.out hg)
          have PT_6 := Lib.hid (PT_5.out.gr0 hg)
          clear hg HG5 PT_5
          go_wp2
          go_roundw
          case rel => exact ⟨j + 1, by go_num, by omega, HG6⟩
          case measure => simp [intOf]; omega
        · have kj : ((j : Int) == 0) = false := by rw [beq_eq_false_iff_ne]; omega
          obtain ⟨k, hk⟩ : ∃ k, j = k + 1 := ⟨j - 1, by omega⟩
          have l1 : k < l.length := by omega
          obtain ⟨f0, f1⟩ := HC.out k l1
          obtain ⟨⟨X0, X1⟩, Y0, Y1⟩ := HV.out k l1
          have lk : k + 1 < l.length := by omega
          have HBk := Lib.hid (HB.out k lk)
          have hjk : l[j] = l[k + 1] := by simp only [hk]
          rw [← hjk] at HBk
          clear hjk
          have hi1 : IntKind.i64.wrap ((j : Int) - 1) = k := by rw [IntWalk.i64_in _ (by omega)]; omega
          have hi2 : (j : Int) - 1 = k := by omega
          have hwk : IntKind.i64.wrap (k : Int) = k := IntWalk.i64_in _ (by omega)
          have kn : k < n := by omega
          have HK := Lib.hid hk; clear hk hj0
          go_wp2_with fail
          have HA0 := Lib.hid (HG.out.alloc (.cells #[.int .i64 l[j].1, .int .i64 l[j].2] 52))
          refine (WH.out _ x0 x1 _ HA0.out).mono ?_; rintro e w4 ⟨rfl, hg⟩
          have HG4 := Lib.hid (Gr.trans HA0.out hg)
          have PT_4 := Lib.hid (HPT.out.gr0 hg)
          clear hg d0 d1 HPT HA0
          go_wp2_with fail
          refine (ATj.out _ HG4.out).mono ?_; rintro e w5 ⟨rfl, hg⟩
          have HG5 := Lib.hid (Gr.trans HG4.out hg)
          have PT_5 := Lib.hid (PT_4.out.gr hg)
          clear hg HG4 PT_4
          have c1 := PT_5.out.c1
          go_wp2_with fail
          clear c1
          refine (WH.out _ y0 y1 _ HG5.out).mono ?_; rintro e w6 ⟨rfl, hg⟩
          have HG6 := Lib.hid (Gr.trans HG5.out hg)
          have PT_6 := Lib.hid (PT_5.out.gr0 hg)
          clear hg HG5 PT_5
          have g0 := cv_cell HG6.out f0
          obtain ⟨O1, hO1⟩ : ∃ O1, cmpQ r ((l[k].1 : Int) : Rat) = O1 := ⟨_, rfl⟩
          obtain ⟨O2, hO2⟩ : ∃ O2, cmpQ r ((l[j].1 : Int) : Rat) = O2 := ⟨_, rfl⟩
          have OR1 := Lib.hid (OR.out l[k].1 X0 X1)
          have OR2 := Lib.hid (OR.out l[j].1 x0 x1)
          rw [hO1] at OR1 HBk
          rw [hO2] at OR2 HBk
          clear hO1 hO2 ATj hbeq
          go_wp2_with fail
          refine (WH.out _ X0 X1 _ HG6.out).mono ?_; rintro e w7 ⟨rfl, hg⟩
          have HG7 := Lib.hid (Gr.trans HG6.out hg)
          have PT_7 := Lib.hid (PT_6.out.gr hg)
          clear hg HG6 PT_6
          go_wp2_with fail
          refine (OR1.out _ HG7.out).mono ?_; rintro e w8 ⟨rfl, hg⟩
          have HG8 := Lib.hid (Gr.trans HG7.out hg)
          have PT_8 := Lib.hid (PT_7.out.gr hg)
          clear hg HG7 PT_7
          clear g0
          by_cases h1 : O1 < 0
          · have kO : decide (O1 < 0) = true := decide_eq_true h1
            clear h1
            go_wp2
            go_roundw
            case rel => exact ⟨j + 1, by go_num, by omega, HG8⟩
            case measure => simp [intOf]; omega
          · have kO : decide (O1 < 0) = false := decide_eq_false h1
            have c0 := PT_8.out.c0
            go_wp2_with fail
            refine (WH.out _ x0 x1 _ HG8.out).mono ?_; rintro e w9 ⟨rfl, hg⟩
            have HG9 := Lib.hid (Gr.trans HG8.out hg)
            have PT_9 := Lib.hid (PT_8.out.gr hg)
            clear hg HG8 PT_8
            clear c0
            go_wp2_with fail
            refine (OR2.out _ HG9.out).mono ?_; rintro e w10 ⟨rfl, hg⟩
            have HG10 := Lib.hid (Gr.trans HG9.out hg)
            have PT_10 := Lib.hid (PT_9.out.gr hg)
            clear hg HG9 PT_9
            by_cases h2 : 0 < O2
            · have kP : decide (O2 > 0) = true := decide_eq_true h2
              have kP' : decide (0 < O2) = true := decide_eq_true h2
              clear h2
              go_wp2
              go_roundw
              case rel => exact ⟨j + 1, by go_num, by omega, HG10⟩
              case measure => simp [intOf]; omega
            · have kP : decide (O2 > 0) = false := decide_eq_false h2
              have kP' : decide (0 < O2) = false := decide_eq_false h2
              obtain ⟨hb1, hb2⟩ := HBk.out (by omega) (by omega)
              have lo0 : 0 ≤ min l[k].2 l[j].2 ∧ min l[k].2 l[j].2 ≤ 65535 := by omega
              have hi0 : 0 ≤ max l[k].2 l[j].2 ∧ max l[k].2 l[j].2 ≤ 65535 := by omega
              have WL := Lib.hid (WH.out (min l[k].2 l[j].2) lo0.1 lo0.2)
              have WM := Lib.hid (WH.out (max l[k].2 l[j].2) hi0.1 hi0.2)
              have YL := Lib.hid (OY.out (min l[k].2 l[j].2) lo0.1 lo0.2)
              have YH := Lib.hid (OY.out (max l[k].2 l[j].2) hi0.1 hi0.2)
              have Q1 : decide (cmpQ vy ((min l[k].2 l[j].2 : Int) : Rat) < 0) = false := decide_eq_false (by omega)
              have Q2 : decide (0 < cmpQ vy ((max l[k].2 l[j].2 : Int) : Rat)) = false := decide_eq_false (by omega)
              have d1 := PT_10.out.c1
              have g1 := cv_cell HG10.out f1
              have HG11 := Lib.hid (HG10.out.drew)
              go_wp2_with fail
              have hS0 : (fun w' : World => Gr w10 w') w10.drew := (Gr.refl w10).drew
              refine wp_region_held (S := fun w' : World => Gr w10 w') (by kernel_rfl) ?_
              change wpAnyH _ _ _ _ _ _ _ _ w10.drew
              refine wpAnyH_take (i := 0) (v := .slice (some ⟨b, off, none⟩) n cap) rfl (by kernel_rfl) (by kernel_rfl) (by kernel_rfl) (fun _ _ _ h => h) (Or.inl ⟨by rfl, ?_⟩) hS0 ?_
              · intro w hSw; go_simp
              try simp only [Act.put, List.getElem_toArray, List.getElem_cons_succ, List.getElem_cons_zero, List.setIfInBounds_toArray, List.set_cons_zero, List.set_cons_succ]
              refine wpAnyH_take (i := 1) (v := .int .i64 j) rfl (by kernel_rfl) (by kernel_rfl) (by kernel_rfl) (fun _ _ _ h => h) (Or.inl ⟨by rfl, ?_⟩) hS0 ?_
              · intro w hSw; go_simp
              try simp only [Act.put, List.getElem_toArray, List.getElem_cons_succ, List.getElem_cons_zero, List.setIfInBounds_toArray, List.set_cons_zero, List.set_cons_succ]
              refine wpAnyH_take (i := 2) (v := .int .i64 k) rfl (by kernel_rfl) (by kernel_rfl) (by kernel_rfl) (fun _ _ _ h => h) (Or.inl ⟨by rfl, ?_⟩) hS0 ?_
              · intro w hSw; go_simp
              try simp only [Act.put, List.getElem_toArray, List.getElem_cons_succ, List.getElem_cons_zero, List.setIfInBounds_toArray, List.set_cons_zero, List.set_cons_succ]
              refine wpAnyH_take (i := 3) (v := .pointer (some ⟨b, off + k * 2, none⟩)) rfl (by kernel_rfl) (by kernel_rfl) (by kernel_rfl) (fun _ _ _ h => h) (Or.inl ⟨by rfl, ?_⟩) hS0 ?_
              · intro w hSw; go_simp
              try simp only [Act.put, List.getElem_toArray, List.getElem_cons_succ, List.getElem_cons_zero, List.setIfInBounds_toArray, List.set_cons_zero, List.set_cons_succ]
              refine wpAnyH_take (i := 4) (v := .pointer (some ⟨b, off + k * 2 + 1, none⟩)) rfl (by kernel_rfl) (by kernel_rfl) (by kernel_rfl) (fun _ _ _ h => h) (Or.inl ⟨by rfl, ?_⟩) hS0 ?_
              · intro w hSw; go_simp
              try simp only [Act.put, List.getElem_toArray, List.getElem_cons_succ, List.getElem_cons_zero, List.setIfInBounds_toArray, List.set_cons_zero, List.set_cons_succ]
              refine wpAnyH_take (i := 5) (v := .int .i64 l[k].2) rfl (by kernel_rfl) (by kernel_rfl) (by kernel_rfl) (fun _ _ _ h => h) (Or.inl ⟨by rfl, ?_⟩) hS0 ?_
              · intro w hSw; have s1 := cv_cell hSw g1; go_simp
              try simp only [Act.put, List.getElem_toArray, List.getElem_cons_succ, List.getElem_cons_zero, List.setIfInBounds_toArray, List.set_cons_zero, List.set_cons_succ]
              refine wpAnyH_take (i := 6) (v := .pointer (some ⟨wr.heap.size, 1, none⟩)) rfl (by kernel_rfl) (by kernel_rfl) (by kernel_rfl) (fun _ _ _ h => h) (Or.inl ⟨by rfl, ?_⟩) hS0 ?_
              · intro w hSw; go_simp
              try simp only [Act.put, List.getElem_toArray, List.getElem_cons_succ, List.getElem_cons_zero, List.setIfInBounds_toArray, List.set_cons_zero, List.set_cons_succ]
              refine wpAnyH_take (i := 7) (v := .int .i64 l[j].2) rfl (by kernel_rfl) (by kernel_rfl) (by kernel_rfl) (fun _ _ _ h => h) (Or.inl ⟨by rfl, ?_⟩) hS0 ?_
              · intro w hSw; have s1 := cv_cell hSw d1; go_simp
              try simp only [Act.put, List.getElem_toArray, List.getElem_cons_succ, List.getElem_cons_zero, List.setIfInBounds_toArray, List.set_cons_zero, List.set_cons_succ]
              refine wpAnyH_take (i := 8) (v := .int .i64 (min l[k].2 l[j].2)) rfl (by kernel_rfl) (by kernel_rfl) (by kernel_rfl) (fun _ _ _ h => h) (Or.inl ⟨by rfl, ?_⟩) hS0 ?_
              · intro w hSw; exact exec_min2 rfl rfl rfl
              try simp only [Act.put, List.getElem_toArray, List.getElem_cons_succ, List.getElem_cons_zero, List.setIfInBounds_toArray, List.set_cons_zero, List.set_cons_succ]
              refine wpAnyH_take (i := 9) (v := .slice (some ⟨b, off, none⟩) n cap) rfl (by kernel_rfl) (by kernel_rfl) (by kernel_rfl) (fun _ _ _ h => h) (Or.inl ⟨by rfl, ?_⟩) hS0 ?_
              · intro w hSw; go_simp
              try simp only [Act.put, List.getElem_toArray, List.getElem_cons_succ, List.getElem_cons_zero, List.setIfInBounds_toArray, List.set_cons_zero, List.set_cons_succ]
              refine wpAnyH_take (i := 10) (v := .int .i64 j) rfl (by kernel_rfl) (by kernel_rfl) (by kernel_rfl) (fun _ _ _ h => h) (Or.inl ⟨by rfl, ?_⟩) hS0 ?_
              · intro w hSw; go_simp
              try simp only [Act.put, List.getElem_toArray, List.getElem_cons_succ, List.getElem_cons_zero, List.setIfInBounds_toArray, List.set_cons_zero, List.set_cons_succ]
              refine wpAnyH_take (i := 11) (v := .int .i64 k) rfl (by kernel_rfl) (by kernel_rfl) (by kernel_rfl) (fun _ _ _ h => h) (Or.inl ⟨by rfl, ?_⟩) hS0 ?_
              · intro w hSw; go_simp
              try simp only [Act.put, List.getElem_toArray, List.getElem_cons_succ, List.getElem_cons_zero, List.setIfInBounds_toArray, List.set_cons_zero, List.set_cons_succ]
              refine wpAnyH_take (i := 12) (v := .pointer (some ⟨b, off + k * 2, none⟩)) rfl (by kernel_rfl) (by kernel_rfl) (by kernel_rfl) (fun _ _ _ h => h) (Or.inl ⟨by rfl, ?_⟩) hS0 ?_
              · intro w hSw; go_simp
              try simp only [Act.put, List.getElem_toArray, List.getElem_cons_succ, List.getElem_cons_zero, List.setIfInBounds_toArray, List.set_cons_zero, List.set_cons_succ]
              refine wpAnyH_take (i := 13) (v := .pointer (some ⟨b, off + k * 2 + 1, none⟩)) rfl (by kernel_rfl) (by kernel_rfl) (by kernel_rfl) (fun _ _ _ h => h) (Or.inl ⟨by rfl, ?_⟩) hS0 ?_
              · intro w hSw; go_simp
              try simp only [Act.put, List.getElem_toArray, List.getElem_cons_succ, List.getElem_cons_zero, List.setIfInBounds_toArray, List.set_cons_zero, List.set_cons_succ]
              refine wpAnyH_take (i := 14) (v := .int .i64 l[k].2) rfl (by kernel_rfl) (by kernel_rfl) (by kernel_rfl) (fun _ _ _ h => h) (Or.inl ⟨by rfl, ?_⟩) hS0 ?_
              · intro w hSw; have s1 := cv_cell hSw g1; go_simp
              try simp only [Act.put, List.getElem_toArray, List.getElem_cons_succ, List.getElem_cons_zero, List.setIfInBounds_toArray, List.set_cons_zero, List.set_cons_succ]
              refine wpAnyH_take (i := 15) (v := .pointer (some ⟨wr.heap.size, 1, none⟩)) rfl (by kernel_rfl) (by kernel_rfl) (by kernel_rfl) (fun _ _ _ h => h) (Or.inl ⟨by rfl, ?_⟩) hS0 ?_
              · intro w hSw; go_simp
              try simp only [Act.put, List.getElem_toArray, List.getElem_cons_succ, List.getElem_cons_zero, List.setIfInBounds_toArray, List.set_cons_zero, List.set_cons_succ]
              refine wpAnyH_take (i := 16) (v := .int .i64 l[j].2) rfl (by kernel_rfl) (by kernel_rfl) (by kernel_rfl) (fun _ _ _ h => h) (Or.inl ⟨by rfl, ?_⟩) hS0 ?_
              · intro w hSw; have s1 := cv_cell hSw d1; go_simp
              try simp only [Act.put, List.getElem_toArray, List.getElem_cons_succ, List.getElem_cons_zero, List.setIfInBounds_toArray, List.set_cons_zero, List.set_cons_succ]
              refine wpAnyH_take (i := 17) (v := .int .i64 (max l[k].2 l[j].2)) rfl (by kernel_rfl) (by kernel_rfl) (by kernel_rfl) (fun _ _ _ h => h) (Or.inl ⟨by rfl, ?_⟩) hS0 ?_
              · intro w hSw; exact exec_max2 rfl rfl rfl
              try simp only [Act.put, List.getElem_toArray, List.getElem_cons_succ, List.getElem_cons_zero, List.setIfInBounds_toArray, List.set_cons_zero, List.set_cons_succ]
              refine wpAnyH_take (i := 18) (v := .int .i64 (min l[k].2 l[j].2)) rfl (by kernel_rfl) (by kernel_rfl) (by kernel_rfl) (fun _ _ _ h => h) (Or.inl ⟨by rfl, ?_⟩) hS0 ?_
              · intro w hSw; go_simp
              try simp only [Act.put, List.getElem_toArray, List.getElem_cons_succ, List.getElem_cons_zero, List.setIfInBounds_toArray, List.set_cons_zero, List.set_cons_succ]
              refine wpAnyH_take (i := 19) (v := .int .i64 (max l[k].2 l[j].2)) rfl (by kernel_rfl) (by kernel_rfl) (by kernel_rfl) (fun _ _ _ h => h) (Or.inl ⟨by rfl, ?_⟩) hS0 ?_
              · intro w hSw; go_simp
              try simp only [Act.put, List.getElem_toArray, List.getElem_cons_succ, List.getElem_cons_zero, List.setIfInBounds_toArray, List.set_cons_zero, List.set_cons_succ]
              refine wpAnyH_done (by kernel_rfl) ?_ _
              clear d1 g1 f0 f1 e0 e1
              generalize min l[k].2 l[j].2 = LO at *
              generalize max l[k].2 l[j].2 = HI at *
              generalize cmpQ vy ((LO : Int) : Rat) = q1 at *
              generalize cmpQ vy ((HI : Int) : Rat) = q2 at *
              have Q2' : decide (q2 > 0) = false := Q2
              go_wp2_with fail
              refine (WL.out _ HG11.out).mono ?_; rintro e w12 ⟨rfl, hg⟩
              have HG12 := Lib.hid (Gr.trans HG11.out hg)
              clear hg HG11 
              go_wp2_with fail
              refine (YL.out _ HG12.out).mono ?_; rintro e w13 ⟨rfl, hg⟩
              have HG13 := Lib.hid (Gr.trans HG12.out hg)
              clear hg HG12 
              go_wp2_with fail
              refine (WM.out _ HG13.out).mono ?_; rintro e w14 ⟨rfl, hg⟩
              have HG14 := Lib.hid (Gr.trans HG13.out hg)
              clear hg HG13 
              go_wp2_with fail
              refine (YH.out _ HG14.out).mono ?_; rintro e w15 ⟨rfl, hg⟩
              have HG15 := Lib.hid (Gr.trans HG14.out hg)
              clear hg HG14 
              go_wp2
              go_roundw
              case rel => exact ⟨j + 1, by go_num, by omega, HG15⟩
              case measure => simp [intOf]; omega
      · have hjn : j = n := by omega
        subst hjn
        go_wp2_with fail
        refine (AW.out _ HG.out).mono ?_; rintro e wx ⟨rfl, hg⟩
        have HGx := Lib.hid (Gr.trans HG.out hg); clear hg
        go_wp2
        go_ret
        exact ⟨rfl, HGx.out⟩
  · rw [Bool.not_eq_true] at hr
    rw [hr] at RI
    generalize l.length = n at *
    clear htab hmx herr hp hJ hr
    intro w hg
    have HG0 := Lib.hid hg
    clear hg
    go_enter Tryz.func6, Tryz.ntmps6
    go_wp2_with fail
    refine (RI.out _ HG0.out).mono ?_; rintro e w1 ⟨rfl, hg⟩
    have HG1 := Lib.hid (Gr.trans HG0.out hg)
    clear hg HG0 
    go_wp2_with fail
    refine (AW.out _ HG1.out).mono ?_; rintro e w2 ⟨rfl, hg⟩
    have HG2 := Lib.hid (Gr.trans HG1.out hg)
    clear hg HG1 
    go_wp2
    go_ret
    exact ⟨rfl, HG2.out⟩
end
end Go.Proofs.YtlbnibicehpobaaGreatDoor
