/- CwFo: CwD, CwE, CwF, CwG, CwJ, CwK, joined. -/
import Derived.Test.YtlbnibicehpobaaGreatDoorCwABC
import Derived.Deep.Slices
set_option linter.unusedVariables false
set_option linter.unusedSimpArgs false

/- Law 9: the examples of the chapter. -/
namespace Go.Proofs.YtlbnibicehpobaaGreatDoor
open Go.RowKit Go.Shelf
open Z
theorem lit_at {l : Pts} {s u : ByteArray} (h : cvC l = 0) (hs : chkS s = 0) (hl : lvlQ (rv s) = true) (hu : chkS u = 0) (he : valC l (rv s) = rv u) : atC l s = (u, 0) := by
  unfold atC
  rw [if_neg (by simp [h]), if_neg (by unfold compE; rw [if_pos hs, if_pos hl]; simp), he, RT_rv hu]
def exC : Pts := [(0, 0), (20000, 60000), (65535, 65535)]
def exI : Pts := [(0, 0), (60000, 20000), (65535, 65535)]
def exD : Pts := [(0, 0), (100, 0), (65535, 65535)]
def exT : Pts := [(0, 0), (10, 20), (20, 40), (65535, 40)]
def exU : Pts := [(0, 0), (20, 40), (65535, 40)]
theorem ex1 : atC exC ⟨#[49, 48, 48, 48, 48]⟩ = (⟨#[51, 48, 48, 48, 48]⟩, 0) := lit_at (by decide +kernel) (by decide +kernel) (by decide +kernel) (by decide +kernel) (by decide +kernel)
theorem ex2 : atC exC ⟨#[50, 48, 48, 48, 48]⟩ = (⟨#[54, 48, 48, 48, 48]⟩, 0) := lit_at (by decide +kernel) (by decide +kernel) (by decide +kernel) (by decide +kernel) (by decide +kernel)
theorem ex3 : atC exC ⟨#[49, 47, 51]⟩ = (⟨#[49]⟩, 0) := lit_at (by decide +kernel) (by decide +kernel) (by decide +kernel) (by decide +kernel) (by decide +kernel)
theorem ex4 : invC exC = (exI, 0) := by decide +kernel
theorem ex5 : invC exD = ([], 16) := by decide +kernel
theorem ex6 : tidyC exT = (exU, 0) := by decide +kernel
theorem exJ : (∀ p ∈ exC, isJ p.1 ∧ isJ p.2) ∧ (∀ p ∈ exD, isJ p.1 ∧ isJ p.2) ∧ ∀ p ∈ exT, isJ p.1 ∧ isJ p.2 := by
  unfold isJ
  decide
theorem pts3 (w : World) (a b c d e f : Int) : PtAt (w.alloc (.cells #[.int .i64 a, .int .i64 b, .int .i64 c, .int .i64 d, .int .i64 e, .int .i64 f] 52)) (some ⟨w.heap.size, 0, none⟩) [(a, b), (c, d), (e, f)] := .inr ⟨_, _, rfl, fun j hj => by
  have h : j = 0 ∨ j = 1 ∨ j = 2 := by simp at hj; omega
  rcases h with rfl | rfl | rfl
  all_goals exact ⟨by rw [World.cell?_alloc_at _ _ _ _ rfl]; rfl, by rw [World.cell?_alloc_at _ _ _ _ rfl]; rfl⟩⟩
theorem pts4 (w : World) (a b c d e f g h : Int) : PtAt (w.alloc (.cells #[.int .i64 a, .int .i64 b, .int .i64 c, .int .i64 d, .int .i64 e, .int .i64 f, .int .i64 g, .int .i64 h] 52)) (some ⟨w.heap.size, 0, none⟩) [(a, b), (c, d), (e, f), (g, h)] := .inr ⟨_, _, rfl, fun j hj => by
  have h : j = 0 ∨ j = 1 ∨ j = 2 ∨ j = 3 := by simp at hj; omega
  rcases h with rfl | rfl | rfl | rfl
  all_goals exact ⟨by rw [World.cell?_alloc_at _ _ _ _ rfl]; rfl, by rw [World.cell?_alloc_at _ _ _ _ rfl]; rfl⟩⟩
section
variable {w0 : World} (htab : Tab w0) (hmx : Mx w0) (herr : ErrR w0)
theorem aw_Inv {w : World} {a : Option Addr} {L M : Pts} {n c : Nat} {E : Int} (hp : PtAt w a L) (hn : L.length = n) (hJ : ∀ p ∈ L, isJ p.1 ∧ isJ p.2) (hnc : n ≤ c) (hc : c ≤ maxLen) (hn2 : n ≤ 100) (h : invC L = (M, E)) :
    Calls Tryz.prog 25 #[.slice a n c] w fun e w' => ∃ a' c', e = .returned (.tuple #[.slice a' M.length c', .int .i64 E]) ∧ PtAt w' a' M ∧ Gr w w' := by
  subst hn
  have := cv_Inverse a L c w hp hJ hnc hc (by omega)
  rw [h] at this
  refine this.mono ?_
  rintro e w' ⟨v, rfl, ho, hg⟩
  obtain ⟨a', c', rfl, hp'⟩ := ho.shape
  exact ⟨a', c', rfl, hp', hg⟩
theorem aw_Tid {w : World} {a : Option Addr} {L M : Pts} {n c : Nat} {E : Int} (hp : PtAt w a L) (hn : L.length = n) (hJ : ∀ p ∈ L, isJ p.1 ∧ isJ p.2) (hnc : n ≤ c) (hc : c ≤ maxLen) (hn2 : n ≤ 100) (h : tidyC L = (M, E)) :
    Calls Tryz.prog 29 #[.slice a n c] w fun e w' => ∃ a' c', e = .returned (.tuple #[.slice a' M.length c', .int .i64 E]) ∧ PtAt w' a' M ∧ Gr w w' := by
  subst hn
  have := cv_Tidy a L c w hp hJ hnc hc (by omega)
  rw [h] at this
  refine this.mono ?_
  rintro e w' ⟨v, rfl, ho, hg⟩
  obtain ⟨a', c', rfl, hp'⟩ := ho.shape
  exact ⟨a', c', rfl, hp', hg⟩
include htab hmx herr
theorem aw_At {w : World} (hg0 : Gr w0 w) {a : Option Addr} {L : Pts} {n c : Nat} {s u : ByteArray} {E : Int} (hp : PtAt w a L) (hn : L.length = n) (hJ : ∀ p ∈ L, isJ p.1 ∧ isJ p.2) (hn2 : n ≤ 100) (hs : s.size ≤ 2000) (h : atC L s = (u, E)) :
    Calls Tryz.prog 13 #[.slice a n c, .string s] w fun e w' => e = .returned (.tuple #[.string u, .int .i64 E]) ∧ Gr w w' := by
  subst hn
  have := cv_At (cap := c) htab hmx herr w hg0 hp hJ (by omega) hs
  rw [h] at this
  exact this
set_option maxHeartbeats 8000000 in
set_option maxRecDepth 100000 in
theorem l9_awake : Ret w0 12 #[] (.bool true) := by
  have A1 := Lib.hid (fun (w : World) (hg0 : Gr w0 w) (a : Option Addr) (hp : PtAt w a exC) => aw_At (c := 3) (n := 3) htab hmx herr hg0 hp rfl exJ.1 (by omega) (by decide) ex1)
  have A2 := Lib.hid (fun (w : World) (hg0 : Gr w0 w) (a : Option Addr) (hp : PtAt w a exC) => aw_At (c := 3) (n := 3) htab hmx herr hg0 hp rfl exJ.1 (by omega) (by decide) ex2)
  have A3 := Lib.hid (fun (w : World) (hg0 : Gr w0 w) (a : Option Addr) (hp : PtAt w a exC) => aw_At (c := 3) (n := 3) htab hmx herr hg0 hp rfl exJ.1 (by omega) (by decide) ex3)
  have I1 := Lib.hid (fun (w : World) (a : Option Addr) (hp : PtAt w a exC) => aw_Inv (c := 3) (n := 3) hp rfl exJ.1 (by omega) (by unfold maxLen; omega) (by omega) ex4)
  have I2 := Lib.hid (fun (w : World) (a : Option Addr) (hp : PtAt w a exD) => aw_Inv (c := 3) (n := 3) hp rfl exJ.2.1 (by omega) (by unfold maxLen; omega) (by omega) ex5)
  have T1 := Lib.hid (fun (w : World) (a : Option Addr) (hp : PtAt w a exT) => aw_Tid (c := 4) (n := 4) hp rfl exJ.2.2 (by omega) (by unfold maxLen; omega) (by omega) ex6)
  have S1 := Lib.hid (fun (w : World) (a b : Option Addr) (c : Nat) (hp : PtAt w a exI) (hq : PtAt w b exI) => (by
    have := r9_Same a b exI exI c 3 w hp hq (by decide) (by decide)
    rwa [decide_eq_true rfl] at this : Calls Tryz.prog 17 #[.slice a 3 c, .slice b 3 3] w fun e w' => e = .returned (.bool true) ∧ Gr w w'))
  have S2 := Lib.hid (fun (w : World) (a b : Option Addr) (c : Nat) (hp : PtAt w a exU) (hq : PtAt w b exU) => (by
    have := r9_Same a b exU exU c 3 w hp hq (by decide) (by decide)
    rwa [decide_eq_true rfl] at this : Calls Tryz.prog 17 #[.slice a 3 c, .slice b 3 3] w fun e w' => e = .returned (.bool true) ∧ Gr w w'))
  have P1 : Hid (∀ w : World, PtAt (w.alloc (.cells #[.int .i64 0, .int .i64 0, .int .i64 20000, .int .i64 60000, .int .i64 65535, .int .i64 65535] 52)) (some ⟨w.heap.size, 0, none⟩) exC) := Lib.hid fun w => pts3 w _ _ _ _ _ _
  have P2 : Hid (∀ w : World, PtAt (w.alloc (.cells #[.int .i64 0, .int .i64 0, .int .i64 100, .int .i64 0, .int .i64 65535, .int .i64 65535] 52)) (some ⟨w.heap.size, 0, none⟩) exD) := Lib.hid fun w => pts3 w _ _ _ _ _ _
  have P3 : Hid (∀ w : World, PtAt (w.alloc (.cells #[.int .i64 0, .int .i64 0, .int .i64 10, .int .i64 20, .int .i64 20, .int .i64 40, .int .i64 65535, .int .i64 40] 52)) (some ⟨w.heap.size, 0, none⟩) exT) := Lib.hid fun w => pts4 w _ _ _ _ _ _ _ _
  have P4 : Hid (∀ w : World, PtAt (w.alloc (.cells #[.int .i64 0, .int .i64 0, .int .i64 60000, .int .i64 20000, .int .i64 65535, .int .i64 65535] 52)) (some ⟨w.heap.size, 0, none⟩) exI) := Lib.hid fun w => pts3 w _ _ _ _ _ _
  have P5 : Hid (∀ w : World, PtAt (w.alloc (.cells #[.int .i64 0, .int .i64 0, .int .i64 20, .int .i64 40, .int .i64 65535, .int .i64 40] 52)) (some ⟨w.heap.size, 0, none⟩) exU) := Lib.hid fun w => pts3 w _ _ _ _ _ _
  have lI : exI.length = 3 := rfl
  have lU : exU.length = 3 := rfl
  rw [lI] at I1
  rw [lU] at T1
  generalize exC = C at *
  generalize exI = I at *
  generalize exD = D at *
  generalize exT = T at *
  generalize exU = U at *
  clear htab hmx herr lI lU
  intro w hg
  have HG := Lib.hid (hg.alloc (.cells #[.int .i64 0, .int .i64 0, .int .i64 20000, .int .i64 60000, .int .i64 65535, .int .i64 65535] 52))
  have HC := Lib.hid (P1.out w)
  clear hg
  go_enter Tryz.func12, Tryz.ntmps12
  go_wp2_with fail
  refine (A1.out _ HG.out _ HC.out).mono ?_; rintro e w1 ⟨rfl, hg⟩
  have HG1 := Lib.hid (Gr.trans HG.out hg)
  have HC1 := Lib.hid (HC.out.gr hg)
  clear hg A1
  go_wp2_with fail
  refine (A2.out _ HG1.out _ HC1.out).mono ?_; rintro e w2 ⟨rfl, hg⟩
  have HG2 := Lib.hid (Gr.trans HG1.out hg)
  have HC2 := Lib.hid (HC1.out.gr hg)
  clear hg A2
  go_wp2_with fail
  refine (A3.out _ HG2.out _ HC2.out).mono ?_; rintro e w3 ⟨rfl, hg⟩
  have HG3 := Lib.hid (Gr.trans HG2.out hg)
  have HC3 := Lib.hid (HC2.out.gr hg)
  clear hg A3
  go_wp2_with fail
  refine (I1.out _ _ HC3.out).mono ?_; rintro e w4 ⟨ai, ci, rfl, hi, hg⟩
  have HG4 := Lib.hid ((Gr.trans HG3.out hg).alloc (.cells #[.int .i64 0, .int .i64 0, .int .i64 100, .int .i64 0, .int .i64 65535, .int .i64 65535] 52))
  have HI4 := Lib.hid (hi.gr ((Gr.refl w4).alloc (.cells #[.int .i64 0, .int .i64 0, .int .i64 100, .int .i64 0, .int .i64 65535, .int .i64 65535] 52)))
  have HD4 := Lib.hid (P2.out w4)
  clear hg hi I1
  go_wp2_with fail
  refine (I2.out _ _ HD4.out).mono ?_; rintro e w5 ⟨aj, cj, rfl, -, hg⟩
  have HG5 := Lib.hid ((Gr.trans HG4.out hg).alloc (.cells #[.int .i64 0, .int .i64 0, .int .i64 10, .int .i64 20, .int .i64 20, .int .i64 40, .int .i64 65535, .int .i64 40] 52))
  have HI5 := Lib.hid ((HI4.out.gr hg).gr ((Gr.refl w5).alloc (.cells #[.int .i64 0, .int .i64 0, .int .i64 10, .int .i64 20, .int .i64 20, .int .i64 40, .int .i64 65535, .int .i64 40] 52)))
  have HT5 := Lib.hid (P3.out w5)
  clear hg I2
  go_wp2_with fail
  refine (T1.out _ _ HT5.out).mono ?_; rintro e w6 ⟨at', ct, rfl, ht, hg⟩
  have HG6 := Lib.hid ((Gr.trans HG5.out hg).alloc (.cells #[.int .i64 0, .int .i64 0, .int .i64 60000, .int .i64 20000, .int .i64 65535, .int .i64 65535] 52))
  have HI6 := Lib.hid ((HI5.out.gr hg).gr ((Gr.refl w6).alloc (.cells #[.int .i64 0, .int .i64 0, .int .i64 60000, .int .i64 20000, .int .i64 65535, .int .i64 65535] 52)))
  have HU6 := Lib.hid (ht.gr ((Gr.refl w6).alloc (.cells #[.int .i64 0, .int .i64 0, .int .i64 60000, .int .i64 20000, .int .i64 65535, .int .i64 65535] 52)))
  have HJ6 := Lib.hid (P4.out w6)
  clear hg ht T1
  go_wp2_with fail
  refine (S1.out _ _ _ _ HI6.out HJ6.out).mono ?_; rintro e w7 ⟨rfl, hg⟩
  have HG7 := Lib.hid ((Gr.trans HG6.out hg).alloc (.cells #[.int .i64 0, .int .i64 0, .int .i64 20, .int .i64 40, .int .i64 65535, .int .i64 40] 52))
  have HU7 := Lib.hid ((HU6.out.gr hg).gr ((Gr.refl w7).alloc (.cells #[.int .i64 0, .int .i64 0, .int .i64 20, .int .i64 40, .int .i64 65535, .int .i64 40] 52)))
  have HV7 := Lib.hid (P5.out w7)
  clear hg S1
  go_wp2_with fail
  refine (S2.out _ _ _ _ HU7.out HV7.out).mono ?_; rintro e w8 ⟨rfl, hg⟩
  have HG8 := Lib.hid (Gr.trans HG7.out hg)
  clear hg S2
  go_wp2
  go_ret
  exact ⟨rfl, HG8.out⟩
end
end Go.Proofs.YtlbnibicehpobaaGreatDoor

/- Law 9: CurveChecks, CurveChanges, CurveChains. -/
namespace Go.Proofs.YtlbnibicehpobaaGreatDoor
open Go.RowKit Go.Shelf
open Z
theorem cw_beq (s : ByteArray) : (s.toList == s.toList) = true := by simp
section
variable {w0 : World} (htab : Tab w0) (hmx : Mx w0) (herr : ErrR w0)
include htab hmx herr
end
end Go.Proofs.YtlbnibicehpobaaGreatDoor

/- Law 9: CurveChains. -/
namespace Go.Proofs.YtlbnibicehpobaaGreatDoor
open Go.RowKit Go.Shelf
open Z
set_option maxHeartbeats 4000000 in
set_option maxRecDepth 100000 in
theorem r9_FewAll {a : Option Addr} {cap : Nat} {L : List Pts} (w : World) (hp : CsAt w a L) (hlen : L.length ≤ 10000000000000) :
    Calls Tryz.prog 20 #[.slice a L.length cap] w fun e w' => (∃ b, e = .returned (.bool b)) ∧ Gr w w' := by
  have HP := Lib.hid hp
  obtain ⟨n, hn⟩ : ∃ n, L.length = n := ⟨_, rfl⟩
  have HN := Lib.hid hn
  rw [hn] at hlen ⊢
  clear hp hn
  go_enter Tryz.func20, Tryz.ntmps20
  go_wp2
  go_loopw [3] (fun i wr => ∃ j : Nat, i = .int .i64 j ∧ j ≤ n ∧ Hid (Gr w wr)) (fun i _ => n - (intOf i).toNat)
  case atStart => exact ⟨0, rfl, Nat.zero_le _, Lib.hid (Gr.refl w)⟩
  case round =>
    obtain ⟨j, rfl, hj, HG⟩ := hrel
    by_cases hlt : j < n
    · have l0 : j < L.length := by rw [HN.out]; exact hlt
      obtain ⟨b, off, c, cp, rfl, d0, hc⟩ := (HP.out.gr HG.out).at l0
      have C := Lib.hid (r9_Few c L[j].length cp wr)
      clear hc
      generalize L[j].length = m at *
      have kn : decide ((j : Int) < n) = true := decide_eq_true (by omega)
      by_cases h40 : j < 40
      · have k4 : decide ((j : Int) < 40) = true := decide_eq_true (by omega)
        by_cases hm : m ≤ 40
        · rw [decide_eq_true hm] at C
          go_wp2_with fail
          refine C.out.mono ?_; rintro e w1 ⟨rfl, rfl⟩
          clear C d0
          go_wp2
          go_roundw
          case rel => exact ⟨j + 1, by go_num, by omega, HG⟩
          case measure => simp [intOf]; omega
        · rw [decide_eq_false hm] at C
          go_wp2_with fail
          refine C.out.mono ?_; rintro e w1 ⟨rfl, rfl⟩
          clear C d0
          go_wp2
          go_ret
          exact ⟨⟨_, rfl⟩, HG.out⟩
      · have k4 : decide ((j : Int) < 40) = false := decide_eq_false (by omega)
        clear C d0
        go_wp2
        go_ret
        exact ⟨⟨_, rfl⟩, HG.out⟩
    · obtain rfl : j = n := by omega
      go_wp2
      go_ret
      exact ⟨⟨_, rfl⟩, HG.out⟩
section
variable {w0 : World} (htab : Tab w0) (hmx : Mx w0) (herr : ErrR w0)
include htab hmx herr
end
end Go.Proofs.YtlbnibicehpobaaGreatDoor

/- Law 9: right; what is asked of a right curve. -/
namespace Go.Proofs.YtlbnibicehpobaaGreatDoor.Z
open Go
theorem atC_right {l : Pts} {r : Rat} {k : Nat} (hc : Cv l) (hl : lvlQ r = true) (hs : Sh k r) (hk : k ≤ 4096) : atC l (RT r) = (RT (valC l r), 0) := by
  unfold atC
  rw [if_neg (by simp [(cvC_iff l).2 hc]), if_neg (by rw [compE_RT (hs.inR hk), if_pos hl]; decide), rv_RT]
theorem Cv.isJ {l : Pts} (h : Cv l) : ∀ p ∈ l, isJ p.1 ∧ isJ p.2 := fun p hp => by
  obtain ⟨⟨a, b⟩, c, d⟩ := h.lv p hp
  unfold Go.Proofs.YtlbnibicehpobaaGreatDoor.isJ
  omega
theorem Cv.lvlV {l : Pts} (h : Cv l) {r : Rat} (hl : lvlQ r = true) : lvlQ (valC l r) = true := by
  obtain ⟨h0, h1⟩ := lvlQ_iff.1 hl
  obtain ⟨k, hk⟩ := h.seg h0 h1
  exact lvlQ_iff.2 (seg_lvl h hk)
end Go.Proofs.YtlbnibicehpobaaGreatDoor.Z
namespace Go.Proofs.YtlbnibicehpobaaGreatDoor
open Go.RowKit Go.Shelf
open Z
/-- a slice of memory that reads as a list of points, with its room -/
def Cu (w : World) (a : Option Addr) (n c : Nat) (l : Pts) : Prop := PtAt w a l ∧ l.length = n ∧ n ≤ c ∧ c ≤ maxLen
theorem Cu.gr {w w' : World} {a : Option Addr} {n c : Nat} {l : Pts} (h : Cu w a n c l) (hg : Gr w w') : Cu w' a n c l := ⟨h.1.gr hg, h.2⟩
section
variable {w0 : World}
variable (htab : Tab w0) (hmx : Mx w0) (herr : ErrR w0)
include htab hmx herr in
end
end Go.Proofs.YtlbnibicehpobaaGreatDoor

/- Law 9: what CurveFollows asks of chains. -/
namespace Go.Proofs.YtlbnibicehpobaaGreatDoor.Z
open Go
abbrev stC : Pts := [(0, 0), (65535, 65535)]
theorem stC_cv : Cv stC := (cvC_iff _).1 (by decide +kernel)
theorem stC_val (v : Rat) : valC stC v = v := by
  show segV (0, 0) (65535, 65535) v = v
  unfold segV
  grind
theorem errs_of {L : List Pts} (h : ∀ c ∈ L, Cv c) : errs L = 0 := by
  induction L with
  | nil => rfl
  | cons c L ih =>
    unfold errs
    rw [if_neg (by simp [(cvC_iff c).2 (h c (List.mem_cons_self ..))])]
    exact ih fun d hd => h d (List.mem_cons_of_mem _ hd)
theorem thru_ok {L : List Pts} {r : Rat} {k : Nat} (h16 : L.length ≤ 16) (hc : ∀ c ∈ L, Cv c) (hl : lvlQ r = true) (hs : Sh k r) (hk : k ≤ 4096) : thruC L (RT r) = (RT (allV L r), 0) := by
  unfold thruC
  rw [if_neg (by omega), if_neg (by simp [errs_of hc]), if_neg (by rw [compE_RT (hs.inR hk), if_pos hl]; decide), rv_RT]
theorem thru_zero {L : List Pts} {s : ByteArray} (h : (thruC L s).2 = 0) (h120 : s.size ≤ 120) : L.length ≤ 16 ∧ (∀ c ∈ L, Cv c) ∧ ∃ r : Rat, s = RT r ∧ Sh 120 r ∧ lvlQ r = true := by
  unfold thruC at h
  by_cases h16 : 16 < L.length
  · rw [if_pos h16] at h; exact absurd h (by decide)
  · rw [if_neg h16] at h
    by_cases he : errs L = 0
    · rw [if_neg (by simp [he])] at h
      by_cases hc : compE s = 0
      · obtain ⟨a, ha, -, hl⟩ := compE_zero hc
        have hk : chkS s = 0 := by
          by_cases hk : chkS s = 0
          · exact hk
          · rw [compE_err hk] at hc; exact absurd hc hk
        obtain ⟨r, hr, hs, -⟩ := text_sh hk h120
        have : a = r := RT_inj (ha.symm.trans hr)
        subst this
        exact ⟨by omega, errs_zero he, a, hr, hs, hl⟩
      · rw [if_pos hc] at h; exact absurd h hc
    · rw [if_pos he] at h; exact absurd h he
end Go.Proofs.YtlbnibicehpobaaGreatDoor.Z
namespace Go.Proofs.YtlbnibicehpobaaGreatDoor
open Go.RowKit Go.Shelf
open Z
theorem allV_sh {L : List Pts} (h : ∀ c ∈ L, Cv c) : ∀ {k : Nat} {r : Rat}, lvlQ r = true → Sh k r → Sh (k + 30 * L.length) (allV L r) := by
  induction L with
  | nil => intro k r _ hs; simpa [allV] using hs
  | cons c L ih =>
    intro k r hl hs
    have hc := h c (List.mem_cons_self ..)
    have := ih (fun d hd => h d (List.mem_cons_of_mem _ hd)) (hc.lvlV hl) (cv_shV hc hl hs)
    refine Sh.mono (show Sh _ (allV L (valC c r)) from this) ?_
    simp only [List.length_cons]
    omega
theorem CsAt.take {w : World} {a : Option Addr} {L : List Pts} (h : CsAt w a L) (m : Nat) : CsAt w a (L.take m) := by
  rcases h with ⟨-, h⟩ | ⟨b, off, ha, hc⟩
  · subst h; exact .inl ⟨trivial, by simp⟩
  · refine .inr ⟨b, off, ha, fun j hj => ?_⟩
    have hj' : j < L.length := by rw [List.length_take] at hj; omega
    obtain ⟨c, cap, h1, h2⟩ := hc j hj'
    rw [List.getElem_take]
    exact ⟨c, cap, h1, h2⟩
section
variable {w0 : World} (htab : Tab w0) (hmx : Mx w0) (herr : ErrR w0)
include htab hmx herr
theorem ok_Thru {a : Option Addr} {n cap k : Nat} {L : List Pts} {r : Rat} (w : World) (hg : Gr w0 w) (hp : CsAt w a L) (hn : L.length = n) (h16 : n ≤ 16) (hc : ∀ c ∈ L, Cv c) (hl : lvlQ r = true) (hs : Sh k r) (hk : k ≤ 900) :
    Calls Tryz.prog 21 #[.slice a n cap, .string (RT r)] w fun e w' => e = .returned (.tuple #[.string (RT (allV L r)), .int .i64 0]) ∧ Gr w w' := by
  subst hn
  have h := cv_Through (cap := cap) htab hmx herr w hg hp (fun c hm => (hc c hm).isJ) (by omega) (s := RT r) (by have := RT_size hs; omega)
  rwa [thru_ok h16 hc hl hs (by omega)] at h
/-- At over a curve, without a word about its room -/
theorem ok_At2 {a : Option Addr} {cap k : Nat} {l : Pts} {r : Rat} (w : World) (hg : Gr w0 w) (hp : PtAt w a l) (hc : Cv l) (hl : lvlQ r = true) (hs : Sh k r) (hk : k ≤ 900) :
    Calls Tryz.prog 13 #[.slice a l.length cap, .string (RT r)] w fun e w' => e = .returned (.tuple #[.string (RT (valC l r)), .int .i64 0]) ∧ Gr w w' := by
  have h := cv_At (cap := cap) htab hmx herr w hg hp hc.isJ (by have := hc.most; omega) (s := RT r) (by have := RT_size hs; omega)
  rwa [atC_right hc hl hs (by omega)] at h
end
end Go.Proofs.YtlbnibicehpobaaGreatDoor

/- Law 9: CurveFollows. -/
namespace Go.Proofs.YtlbnibicehpobaaGreatDoor
open Go.RowKit Go.Shelf
open Z
/-- the values of curves that lie in memory -/
theorem CsAt.vals {w : World} {b off : Nat} {L : List Pts} (h : CsAt w (some ⟨b, off, none⟩) L) : ∃ us : List Value, us.length = L.length ∧ (∀ u ∈ us, u.oneCell' = true) ∧ (∀ j u, us[j]? = some u → w.cell? ⟨b, off + j, none⟩ = some u) ∧ ∀ j (hj : j < L.length), ∃ c cap, us[j]? = some (.slice c L[j].length cap) ∧ PtAt w c L[j] := by
  rcases h with ⟨-, h⟩ | ⟨b', off', e, hc⟩
  · subst h; exact ⟨[], rfl, by simp, by simp, fun j hj => absurd hj (by simp)⟩
  · simp only [Option.some.injEq, Addr.mk.injEq, and_true] at e
    obtain ⟨rfl, rfl⟩ := e
    have each : ∀ j, j < L.length → ∃ q : Option Addr × Nat, ∃ h : j < L.length, w.cell? ⟨b, off + j, none⟩ = some (.slice q.1 L[j].length q.2) ∧ PtAt w q.1 L[j] := fun j hj => by
      obtain ⟨c, cap, h1, h2⟩ := hc j hj
      exact ⟨(c, cap), hj, h1, h2⟩
    obtain ⟨G, hG⟩ := Go.Deep.choose_lt each
    refine ⟨(List.range L.length).map fun j => .slice (G j).1 ((L[j]?.map List.length).getD 0) (G j).2, by simp, fun u hu => ?_, fun j u hu => ?_, fun j hj => ?_⟩
    · obtain ⟨j, -, rfl⟩ := List.mem_map.1 hu; rfl
    · have hj : j < L.length := by have := (List.getElem?_eq_some_iff.1 hu).1; simpa using this
      obtain ⟨_, h1, -⟩ := hG j hj
      rw [h1]
      simp only [List.getElem?_map, List.getElem?_range hj, Option.map_some, Option.some.injEq, List.getElem?_eq_getElem hj, Option.getD_some] at hu
      rw [← hu]
    · obtain ⟨_, -, h2⟩ := hG j hj
      exact ⟨(G j).1, (G j).2, by simp [List.getElem?_range hj, List.getElem?_eq_getElem hj], h2⟩
/-- an own row of values of curves -/
def OwnL (B : Nat) (w : World) (v : Value) (us : List Value) : Prop := w.ownsRow B 22 1 v us.length us
theorem OwnL.csAt {B : Nat} {w : World} {v : Value} {us : List Value} {L : List Pts} (h : OwnL B w v us) (hn : us.length = L.length) (hx : ∀ j (hj : j < L.length), ∃ c cap, us[j]? = some (.slice c L[j].length cap) ∧ PtAt w c L[j]) (h0 : 0 < L.length) : ∃ g cap, v = .slice (some ⟨g, 0, none⟩) L.length cap ∧ B ≤ g ∧ CsAt w (some ⟨g, 0, none⟩) L := by
  rcases id h.2 with ⟨-, h1⟩ | ⟨g, cap, cur, rfl, hb, -, -, -, -⟩
  · omega
  · refine ⟨g, cap, by rw [hn], hb, .inr ⟨g, 0, rfl, fun j hj => ?_⟩⟩
    obtain ⟨c, cp, h1, h2⟩ := hx j hj
    have := World.ownsRow.cells h (g := g) rfl j _ h1
    rw [WideShapes.add_plain] at this
    exact ⟨c, cp, this, h2⟩
theorem stop_at {p : Prop} (h : True → p) : p := h trivial
theorem Tryz.infoCurve : (Tryz.prog.info? 22).map (fun i => (i.zero, i.size, i.bytes)) = some (some (.slice none 0 0), 1, 24) := by kernel_rfl
theorem OwnL.gr {B : Nat} {w w' : World} {v : Value} {us : List Value} (h : OwnL B w v us) (hg : Gr w w') : OwnL B w' v us := World.ownsRow.kept h (⟨hg.os, hg.tape, hg.output, hg.size, fun i hi _ => hg.block i hi⟩ : w.grownBy w' none) (by cases hv : v.ownBlock with | none => exact .inl rfl | some k => exact .inr (by simp))
theorem apA {i : TypeInfo} (hi : Tryz.prog.info? 22 = some i) (hz0 : i.zero = some (.slice none 0 0)) (hz1 : i.size = 1) (hz2 : i.bytes = 24)
    {ops : Array Oper} {rest : List Oper} {o : Oper} {a : Act} {Q : Exit → Act → World → Prop} {w : World} (hgd : o.guard = none) (s x : Operand)
    (ho : o.op = .call { callee := .builtin .append, args := #[s, x], argTypes := #[37, 37] }) {u0 : Value} {us : List Value} {b off n c : Nat}
    (hs : a.eval s = .slice (some ⟨w.heap.size, 0, none⟩) 1 1) (hx : a.eval x = .slice (some ⟨b, off, none⟩) n c) (hl : us.length = n) (hn : n ≤ 1000000) (hu1 : ∀ u ∈ us, u.oneCell' = true) (hu3 : ∀ j u, us[j]? = some u → w.cell? ⟨b, off + j, none⟩ = some u)
    (h : ∀ v' w', Hid (OwnL w.heap.size w' v' (u0 :: us)) → Hid (Gr w w') → wpList Tryz.prog ops Q rest (a.put o.dst v') w') :
    wpList Tryz.prog ops Q (o :: rest) a (w.alloc (.cells #[u0] 22)) := by
  refine wpList_append_own _ hgd s x _ ho w.heap.size 22 i (.slice none 0 0) 1 24 Tryz.underlying37 hi hz0 hz1 hz2 rfl (by decide) _ 1 [u0] hs (World.ownsRow_lit w #[u0] 1 (Nat.le_refl _) (by unfold maxLen; omega) rfl) ⟨b, off, none⟩ n c us hx (by omega) (fun j u hj => ?_) hu1 (by unfold maxLen; omega) (by omega) (by simp)
    (fun v' w' hown' hgrow _ => h v' w' (Lib.hid ?_) (Lib.hid (Below.grown (Below.alloc (Below.refl _ w) (Nat.le_refl _) _) hgrow (by simp) (fun k hk => by simp only [Value.ownBlock, Option.some.injEq] at hk; omega))))
  · rw [WideShapes.add_plain]
    exact cv_cell ((Gr.refl w).alloc _) (hu3 j u hj)
  · show World.ownsRow _ _ _ _ _ _ _
    rw [List.length_cons, hl, Nat.add_comm]; exact hown'
theorem apB {i : TypeInfo} (hi : Tryz.prog.info? 22 = some i) (hz0 : i.zero = some (.slice none 0 0)) (hz1 : i.size = 1) (hz2 : i.bytes = 24)
    {ops : Array Oper} {rest : List Oper} {o : Oper} {a : Act} {Q : Exit → Act → World → Prop} {w : World} {B : Nat} (hgd : o.guard = none) (s x : Operand)
    (ho : o.op = .call { callee := .builtin .append, args := #[s, x], argTypes := #[37, 37] }) {u1 : Value} {v : Value} {xs : List Value} (hone : u1.oneCell' = true)
    (hs : a.eval s = v) (hown : OwnL B w v xs) (hB : B ≤ w.heap.size) (hx : a.eval x = .slice (some ⟨w.heap.size, 0, none⟩) 1 1) (hn : xs.length + 1 ≤ 1000000)
    (h : ∀ v' w', Hid (OwnL B w' v' (xs ++ [u1])) → Hid (Below B w w') → Hid (∀ k, k < w.heap.size → some k ≠ v.ownBlock → w'.heap[k]? = w.heap[k]?) → wpList Tryz.prog ops Q rest (a.put o.dst v') w') :
    wpList Tryz.prog ops Q (o :: rest) a (w.alloc (.cells #[u1] 22)) := by
  refine wpList_append_own _ hgd s x _ ho B 22 i (.slice none 0 0) 1 24 Tryz.underlying37 hi hz0 hz1 hz2 rfl (by decide) v xs.length xs hs (World.ownsRow.alloc hown _) ⟨w.heap.size, 0, none⟩ 1 1 [u1] hx rfl (fun j u hj => ?_) (fun u hu => by rw [List.mem_singleton.1 hu]; exact hone) (by unfold maxLen; omega) (by omega) (by simp; omega)
    (fun v' w' hown' hgrow _ => h v' w' (Lib.hid ?_) (Lib.hid (Below.grown (Below.alloc (Below.refl B w) hB _) hgrow (by simp; omega) (fun k hk => (World.ownsRow.lt hown k hk).1))) (Lib.hid fun k hk hne => (hgrow.block k (by simp; omega) hne).trans (Below.heap_alloc _ _ _ (by omega))))
  · rw [WideShapes.add_plain]
    match j, hj with
    | 0, hj => simp only [List.getElem?_cons_zero, Option.some.injEq] at hj; subst hj; rw [World.cell?_alloc_at _ _ _ _ rfl]; rfl
    | j + 1, hj => simp at hj
  · show World.ownsRow _ _ _ _ _ _ _
    rw [List.length_append]; exact hown'
/-- a curve in a block that stays -/
theorem pt_block {w w' : World} {g : Nat} {R : Pts} (h : PtAt w (some ⟨g, 0, none⟩) R) (hb : w'.heap[g]? = w.heap[g]?) : PtAt w' (some ⟨g, 0, none⟩) R := by
  rcases h with h | ⟨b, off, ha, hc⟩
  · exact .inl h
  · simp only [Option.some.injEq, Addr.mk.injEq, and_true] at ha
    obtain ⟨rfl, rfl⟩ := ha
    refine .inr ⟨_, _, rfl, fun j hj => ?_⟩
    obtain ⟨h1, h2⟩ := hc j hj
    exact ⟨(World.cell?_of_block (a := ⟨g, 0 + j * 2, none⟩) hb).trans h1, (World.cell?_of_block (a := ⟨g, 0 + j * 2 + 1, none⟩) hb).trans h2⟩
theorem follow_cs {w7 w8 w9 w' : World} {v v' : Value} {g1 g2 c1 c2 : Nat} {us : List Value} {L : List Pts} (ho8 : OwnL w7.heap.size w8 v (.slice (some ⟨g1, 0, none⟩) 2 c1 :: us)) (hg78 : Gr w7 w8) (hg89 : Gr w8 w9) (hg2 : w8.heap.size ≤ g2)
    (ho : OwnL w7.heap.size w' v' ((.slice (some ⟨g1, 0, none⟩) 2 c1 :: us) ++ [.slice (some ⟨g2, 0, none⟩) 2 c2])) (hb : Below w7.heap.size w9 w') (hk : ∀ k, k < w9.heap.size → some k ≠ v.ownBlock → w'.heap[k]? = w9.heap[k]?)
    (p1 : PtAt w7 (some ⟨g1, 0, none⟩) stC) (p2 : PtAt w9 (some ⟨g2, 0, none⟩) stC) (hul : us.length = L.length) (hu : ∀ j (hj : j < L.length), ∃ c cap, us[j]? = some (.slice c L[j].length cap) ∧ PtAt w7 c L[j]) :
    Gr w7 w' ∧ ∃ a c, v' = .slice a (L.length + 2) c ∧ CsAt w' a ([stC] ++ L ++ [stC]) := by
  have hg79 : Gr w7 w9 := Gr.trans hg78 hg89
  have hg : Gr w7 w' := Below.trans hg79 hb
  refine ⟨hg, ?_⟩
  have hg2l : g2 < w9.heap.size := by
    rcases p2 with ⟨-, h⟩ | ⟨b, off, ha, hc⟩
    · cases h
    · simp only [Option.some.injEq, Addr.mk.injEq, and_true] at ha
      obtain ⟨rfl, rfl⟩ := ha
      exact cell_lt (hc 0 (by decide)).1
  have p2' : PtAt w' (some ⟨g2, 0, none⟩) stC := pt_block p2 (hk g2 hg2l (fun e => by have := (World.ownsRow.lt ho8 g2 e.symm).2; omega))
  have hlen : ([stC] ++ L ++ [stC]).length = L.length + 2 := by simp
  obtain ⟨g, cap, e, -, hcs⟩ := ho.csAt (L := [stC] ++ L ++ [stC]) (by simp [hul]) (fun j hj => by
    rw [hlen] at hj
    match j, hj with
    | 0, _ => exact ⟨some ⟨g1, 0, none⟩, c1, by simp, p1.gr hg⟩
    | j + 1, hj =>
      by_cases h : j < L.length
      · obtain ⟨c, cp, h1, h2⟩ := hu j h
        have hjL : ([stC] ++ L ++ [stC])[j + 1]'(by simp; omega) = L[j] := by simp [List.getElem_append, h]
        refine ⟨c, cp, ?_, ?_⟩
        · rw [hjL, List.cons_append, List.getElem?_cons_succ, List.getElem?_append_left (by omega)]; exact h1
        · rw [hjL]; exact h2.gr hg
      · have hj2 : j = L.length := by omega
        subst hj2
        have hjL : ([stC] ++ L ++ [stC])[L.length + 1]'(by simp) = stC := by simp [List.getElem_append]
        refine ⟨some ⟨g2, 0, none⟩, c2, ?_, ?_⟩
        · rw [hjL, List.cons_append, List.getElem?_cons_succ, List.getElem?_append_right (by omega), hul]; simp
        · rw [hjL]; exact p2') (by simp)
  rw [hlen] at e
  exact ⟨_, cap, e, hcs⟩
section
variable {w0 : World} (htab : Tab w0) (hmx : Mx w0) (herr : ErrR w0)
include htab hmx herr
set_option maxHeartbeats 8000000 in
set_option maxRecDepth 100000 in
theorem l9_CurveFollows {a : Option Addr} {cap : Nat} {L : List Pts} {s : ByteArray} (hp : CsAt w0 a L) (hR : ∀ c ∈ L, ∀ p ∈ c, isJ p.1 ∧ isJ p.2) (hlc : L.length ≤ cap) (hcm : cap ≤ maxLen) (hlen : L.length ≤ 10000000000000) (hs : s.size ≤ maxLen) : Ret w0 9 #[.slice a L.length cap, .string s] (.bool true) := by
  have AW := Lib.hid (RetG.of4 (w0 := w0) fun w1 h => l9_awake (htab_gr htab h) (hmx.gr h) (herr.gr h))
  have HF := Lib.hid (RetG.of4 (w0 := w0) fun w1 _ => ret_Few2 (w0 := w1) hs)
  have CF := Lib.hid (fun w (hg : Gr w0 w) => r9_FewAll (cap := cap) w (hp.gr hg) hlen)
  by_cases h120 : s.size ≤ 120
  · rw [decide_eq_true h120] at HF
    have RT0 := Lib.hid (fun w (hg : Gr w0 w) => r9_Through (cap := cap) w (hp.gr hg) hR hlen (s := s) (by omega))
    by_cases hE : (thruC L s).2 = 0
    · by_cases hn : 1 ≤ L.length ∧ L.length ≤ 4
      · obtain ⟨h16, hc, r, rfl, hsh, hl⟩ := thru_zero hE h120
        rw [thru_ok h16 hc hl hsh (by omega)] at RT0
        unfold vSI at RT0
        simp only [] at RT0
        obtain ⟨m, hm⟩ : ∃ m, L.length = m + 1 := ⟨L.length - 1, by omega⟩
        have lm : m < L.length := by omega
        have hct : ∀ c ∈ L.take m, Cv c := fun c h => hc c (List.mem_of_mem_take h)
        have hlt : lvlQ (allV (L.take m) r) = true := allV_lvl hct hl
        have hst := allV_sh hct hl hsh
        have hx : allV L r = valC L[m] (allV (L.take m) r) := by rw [← allV_take lm, List.take_of_length_le (by omega)]
        have P1 := Lib.hid (fun w (hg : Gr w0 w) => ok_Thru (cap := cap) htab hmx herr w hg (hp.gr hg) rfl h16 hc hl hsh (by omega))
        have P2 := Lib.hid (fun w (hg : Gr w0 w) => ok_Thru (n := m) (cap := cap) htab hmx herr w hg ((hp.gr hg).take m) (by rw [List.length_take]; omega) (by omega) hct hl hsh (by omega))
        have P3 := Lib.hid (fun c cp w (hg : Gr w0 w) (h : PtAt w c L[m]) => ok_At2 (cap := cp) htab hmx herr w hg h (hc _ (List.getElem_mem lm)) hlt hst (by rw [List.length_take]; omega))
        rw [← hx] at P3
        have P4 := Lib.hid (fun v c w (hg : Gr w0 w) (h : CsAt w v ([stC] ++ L ++ [stC])) => ok_Thru (n := m + 3) (cap := c) htab hmx herr w hg h (by simp; omega) (by omega) (fun c h => by
          rcases List.mem_append.1 h with h | h
          · rcases List.mem_append.1 h with h | h
            · rw [List.mem_singleton.1 h]; exact stC_cv
            · exact hc c h
          · rw [List.mem_singleton.1 h]; exact stC_cv) hl hsh (by omega))
        have hy : allV ([stC] ++ L ++ [stC]) r = allV L r := by
          unfold allV
          rw [List.foldl_append, List.foldl_append]
          show valC stC (L.foldl (fun v c => valC c v) (valC stC r)) = _
          rw [stC_val, stC_val]
        rw [hy] at P4
        have P5 := Lib.hid (fun w (hg : Gr w0 w) => ok_Thru (a := none) (n := 0) (cap := 0) (L := []) htab hmx herr w hg (.inl ⟨trivial, rfl⟩) rfl (by omega) (fun c h => by cases h) hl hsh (by omega))
        rw [show allV [] r = r from rfl] at P5
        have h1 := cw_beq (RT (allV L r))
        have h2 := cw_beq (RT r)
        have CS := Lib.hid hp
        have HM := Lib.hid hm
        rw [hm] at P1 RT0 CF hlc ⊢
        obtain ⟨b, off, c1, cp1, rfl, -, -⟩ := hp.at lm
        have kk : 4 ≤ 4 := Nat.le_refl _
        have hm4 : m ≤ 3 := by omega
        generalize RT (allV L r) = Y at *
        generalize RT (allV (L.take m) r) = X at *
        generalize RT r = R at *
        have k0 : ((m : Int) + 1 == 0) = false := by rw [beq_eq_false_iff_ne]; omega
        have k4 : decide ((m : Int) + 1 > 4) = false := decide_eq_false (by omega)
        have k4' : decide ((4 : Int) < (m : Int) + 1) = false := decide_eq_false (by omega)
        clear htab hmx herr hp hR hs hE hct hlt hst hx hy hl hsh hc h16 hn hm
        intro w hg
        have HG0 := Lib.hid hg
        have CS_0 := Lib.hid (CS.out.gr hg)
        clear hg CS
        go_enter Tryz.func9, Tryz.ntmps9
        go_wp2_with fail
        refine (CF.out _ HG0.out).mono ?_; rintro e w1 ⟨⟨bb, rfl⟩, hg⟩
        have HG1 := Lib.hid (Gr.trans HG0.out hg)
        have CS_1 := Lib.hid (CS_0.out.gr hg)
        clear hg HG0 CS_0
        cases bb
        · clear RT0 P1 P2 P3 P4 P5
          go_wp2_with fail
          refine (AW.out _ HG1.out).mono ?_; rintro e w2 ⟨rfl, hg⟩
          have HG2 := Lib.hid (Gr.trans HG1.out hg)
          clear hg HG1 
          go_wp2
          go_ret
          exact ⟨rfl, HG2.out⟩
        · go_wp2_with fail
          refine (HF.out _ HG1.out).mono ?_; rintro e w2 ⟨rfl, hg⟩
          have HG2 := Lib.hid (Gr.trans HG1.out hg)
          have CS_2 := Lib.hid (CS_1.out.gr hg)
          clear hg HG1 CS_1
          go_wp2_with fail
          refine (RT0.out _ HG2.out).mono ?_; rintro e w3 ⟨rfl, hg⟩
          have HG3 := Lib.hid (Gr.trans HG2.out hg)
          have CS_3 := Lib.hid (CS_2.out.gr hg)
          clear hg HG2 CS_2
          go_wp2_with fail
          refine (P1.out _ HG3.out).mono ?_; rintro e w4 ⟨rfl, hg⟩
          have HG4 := Lib.hid (Gr.trans HG3.out hg)
          have CS_4 := Lib.hid (CS_3.out.gr hg)
          clear hg HG3 CS_3
          go_wp2_with fail
          refine (P2.out _ HG4.out).mono ?_; rintro e w5 ⟨rfl, hg⟩
          have HG5 := Lib.hid (Gr.trans HG4.out hg)
          have CS_5 := Lib.hid (CS_4.out.gr hg)
          clear hg HG4 CS_4
          have lm2 : m < L.length := by rw [HM.out]; omega
          obtain ⟨b2, off2, c2, cp2, e2, d2, pm2⟩ := CS_5.out.at lm2
          simp only [Option.some.injEq, Addr.mk.injEq, and_true] at e2
          obtain ⟨rfl, rfl⟩ := e2
          have PM := Lib.hid pm2; clear pm2
          go_wp2_with fail
          refine (P3.out _ _ _ HG5.out PM.out).mono ?_; rintro e w6 ⟨rfl, hg⟩
          have HG6 := Lib.hid (Gr.trans HG5.out hg)
          have CS_6 := Lib.hid (CS_5.out.gr hg)
          clear hg HG5 CS_5
          clear d2 PM
          go_wp2_with fail
          refine (cv_Straight _).mono ?_; rintro e w7 ⟨g1, rfl, hs1, hp1, hg⟩
          have HG7 := Lib.hid (Gr.trans HG6.out hg)
          have CS_7 := Lib.hid (CS_6.out.gr hg)
          have ST := Lib.hid hp1
          obtain ⟨us, ul, u1, u3, u4⟩ := CS_7.out.vals
          have U4 := Lib.hid u4
          clear hg hs1 hp1 HG6 CS_6 u4
          obtain ⟨i0, hi, hz0, hz1, hz2⟩ := info_parts Tryz.infoCurve
          go_wp2_with (at_builtin; refine stop_at ?_)
          intro _
          refine apA hi hz0 hz1 hz2 rfl _ _ rfl rfl rfl (us := us) (ul.trans HM.out) (by omega) u1 u3 ?_
          intro v8 w8 HO8 HG78
          go_wp2_with fail
          refine (cv_Straight _).mono ?_; rintro e w9 ⟨g2, rfl, hg2, hp2, hg89⟩
          have SU := Lib.hid hp2
          have HG89 := Lib.hid hg89
          have HO9 := Lib.hid (HO8.out.gr hg89)
          have hB : w7.heap.size ≤ w9.heap.size := Nat.le_trans HG78.out.size hg89.size
          clear hp2 hg89
          have hlen2 := HM.out
          go_wp2_with (at_builtin; refine stop_at ?_)
          intro _
          refine apB hi hz0 hz1 hz2 rfl _ _ rfl rfl rfl HO9.out hB rfl (by simp [ul]; omega) ?_
          intro v10 w10 HO10 HB10 HK10
          obtain ⟨hg710, a10, cap10, rfl, hcs⟩ := follow_cs HO8.out HG78.out HG89.out hg2 HO10.out HB10.out HK10.out ST.out SU.out ul U4.out
          have HG10 := Lib.hid (Gr.trans HG7.out hg710)
          have CX := Lib.hid hcs
          rw [show L.length + 2 = m + 3 by omega]
          clear hg710 hcs HO8 HO9 HO10 HB10 HK10 ST SU ul u1 u3 U4 HG7 HG78 HG89 hg2 hB CS_7 hi hz0 hz1 hz2
          go_wp2_with fail
          refine (P4.out _ _ _ HG10.out CX.out).mono ?_; rintro e w11 ⟨rfl, hg⟩
          have HG11 := Lib.hid (Gr.trans HG10.out hg)
          clear hg HG10 
          go_wp2_with fail
          refine (P5.out _ HG11.out).mono ?_; rintro e w12 ⟨rfl, hg⟩
          have HG12 := Lib.hid (Gr.trans HG11.out hg)
          clear hg HG11 
          go_wp2_with fail
          refine (AW.out _ HG12.out).mono ?_; rintro e w13 ⟨rfl, hg⟩
          have HG13 := Lib.hid (Gr.trans HG12.out hg)
          clear hg HG12 
          go_wp2
          go_ret
          exact ⟨rfl, HG13.out⟩
      · clear hE RT0
        clear htab hmx herr hp hR hs hlc
        generalize L.length = n at *
        intro w hg
        have HG0 := Lib.hid hg
        clear hg
        go_enter Tryz.func9, Tryz.ntmps9
        go_wp2_with fail
        refine (CF.out _ HG0.out).mono ?_; rintro e w1 ⟨⟨bb, rfl⟩, hg⟩
        have HG1 := Lib.hid (Gr.trans HG0.out hg); clear hg HG0
        cases bb
        · skip
          go_wp2_with fail
          refine (AW.out _ HG1.out).mono ?_; rintro e w2 ⟨rfl, hg⟩
          have HG2 := Lib.hid (Gr.trans HG1.out hg)
          clear hg HG1 
          go_wp2
          go_ret
          exact ⟨rfl, HG2.out⟩
        · by_cases h0 : n = 0
          · have k0 : ((n : Int) == 0) = true := by rw [beq_iff_eq]; omega
            go_wp2_with fail
            refine (AW.out _ HG1.out).mono ?_; rintro e w2 ⟨rfl, hg⟩
            have HG2 := Lib.hid (Gr.trans HG1.out hg)
            clear hg HG1 
            go_wp2
            go_ret
            exact ⟨rfl, HG2.out⟩
          · have k0 : ((n : Int) == 0) = false := by rw [beq_eq_false_iff_ne]; omega
            have k4 : decide ((n : Int) > 4) = true := decide_eq_true (by omega)
            have k4' : decide ((4 : Int) < (n : Int)) = true := decide_eq_true (by omega)
            go_wp2_with fail
            refine (AW.out _ HG1.out).mono ?_; rintro e w2 ⟨rfl, hg⟩
            have HG2 := Lib.hid (Gr.trans HG1.out hg)
            clear hg HG1 
            go_wp2
            go_ret
            exact ⟨rfl, HG2.out⟩
    · obtain ⟨T, hT⟩ : ∃ T, thruC L s = T := ⟨_, rfl⟩
      rw [hT] at hE RT0
      obtain ⟨T1, T2⟩ := T
      have hne : (T2 == 0) = false := by rw [beq_eq_false_iff_ne]; exact hE
      unfold vSI at RT0
      simp only [] at RT0 hE
      clear hT
      by_cases hn : 1 ≤ L.length ∧ L.length ≤ 4
      · skip
        clear htab hmx herr hp hR hs hlc
        generalize L.length = n at *
        intro w hg
        have HG0 := Lib.hid hg
        clear hg
        go_enter Tryz.func9, Tryz.ntmps9
        go_wp2_with fail
        refine (CF.out _ HG0.out).mono ?_; rintro e w1 ⟨⟨bb, rfl⟩, hg⟩
        have HG1 := Lib.hid (Gr.trans HG0.out hg); clear hg HG0
        cases bb
        · skip
          go_wp2_with fail
          refine (AW.out _ HG1.out).mono ?_; rintro e w2 ⟨rfl, hg⟩
          have HG2 := Lib.hid (Gr.trans HG1.out hg)
          clear hg HG1 
          go_wp2
          go_ret
          exact ⟨rfl, HG2.out⟩
        · have k0 : ((n : Int) == 0) = false := by rw [beq_eq_false_iff_ne]; omega
          have k4 : decide ((n : Int) > 4) = false := decide_eq_false (by omega)
          have k4' : decide ((4 : Int) < (n : Int)) = false := decide_eq_false (by omega)
          go_wp2_with fail
          refine (HF.out _ HG1.out).mono ?_; rintro e w2 ⟨rfl, hg⟩
          have HG2 := Lib.hid (Gr.trans HG1.out hg); clear hg HG1
          go_wp2_with fail
          refine (RT0.out _ HG2.out).mono ?_; rintro e w3 ⟨rfl, hg⟩
          have HG3 := Lib.hid (Gr.trans HG2.out hg)
          clear hg HG2 
          go_wp2_with fail
          refine (AW.out _ HG3.out).mono ?_; rintro e w4 ⟨rfl, hg⟩
          have HG4 := Lib.hid (Gr.trans HG3.out hg)
          clear hg HG3 
          go_wp2
          go_ret
          exact ⟨rfl, HG4.out⟩
      · clear RT0 hne hE
        clear htab hmx herr hp hR hs hlc
        generalize L.length = n at *
        intro w hg
        have HG0 := Lib.hid hg
        clear hg
        go_enter Tryz.func9, Tryz.ntmps9
        go_wp2_with fail
        refine (CF.out _ HG0.out).mono ?_; rintro e w1 ⟨⟨bb, rfl⟩, hg⟩
        have HG1 := Lib.hid (Gr.trans HG0.out hg); clear hg HG0
        cases bb
        · skip
          go_wp2_with fail
          refine (AW.out _ HG1.out).mono ?_; rintro e w2 ⟨rfl, hg⟩
          have HG2 := Lib.hid (Gr.trans HG1.out hg)
          clear hg HG1 
          go_wp2
          go_ret
          exact ⟨rfl, HG2.out⟩
        · by_cases h0 : n = 0
          · have k0 : ((n : Int) == 0) = true := by rw [beq_iff_eq]; omega
            go_wp2_with fail
            refine (AW.out _ HG1.out).mono ?_; rintro e w2 ⟨rfl, hg⟩
            have HG2 := Lib.hid (Gr.trans HG1.out hg)
            clear hg HG1 
            go_wp2
            go_ret
            exact ⟨rfl, HG2.out⟩
          · have k0 : ((n : Int) == 0) = false := by rw [beq_eq_false_iff_ne]; omega
            have k4 : decide ((n : Int) > 4) = true := decide_eq_true (by omega)
            have k4' : decide ((4 : Int) < (n : Int)) = true := decide_eq_true (by omega)
            go_wp2_with fail
            refine (AW.out _ HG1.out).mono ?_; rintro e w2 ⟨rfl, hg⟩
            have HG2 := Lib.hid (Gr.trans HG1.out hg)
            clear hg HG1 
            go_wp2
            go_ret
            exact ⟨rfl, HG2.out⟩
  · rw [decide_eq_false h120] at HF
    by_cases hn : 1 ≤ L.length ∧ L.length ≤ 4
    · skip
      clear htab hmx herr hp hR hs hlc
      generalize L.length = n at *
      intro w hg
      have HG0 := Lib.hid hg
      clear hg
      go_enter Tryz.func9, Tryz.ntmps9
      go_wp2_with fail
      refine (CF.out _ HG0.out).mono ?_; rintro e w1 ⟨⟨bb, rfl⟩, hg⟩
      have HG1 := Lib.hid (Gr.trans HG0.out hg); clear hg HG0
      cases bb
      · skip
        go_wp2_with fail
        refine (AW.out _ HG1.out).mono ?_; rintro e w2 ⟨rfl, hg⟩
        have HG2 := Lib.hid (Gr.trans HG1.out hg)
        clear hg HG1 
        go_wp2
        go_ret
        exact ⟨rfl, HG2.out⟩
      · have k0 : ((n : Int) == 0) = false := by rw [beq_eq_false_iff_ne]; omega
        have k4 : decide ((n : Int) > 4) = false := decide_eq_false (by omega)
        have k4' : decide ((4 : Int) < (n : Int)) = false := decide_eq_false (by omega)
        go_wp2_with fail
        refine (HF.out _ HG1.out).mono ?_; rintro e w2 ⟨rfl, hg⟩
        have HG2 := Lib.hid (Gr.trans HG1.out hg); clear hg HG1
        go_wp2_with fail
        refine (AW.out _ HG2.out).mono ?_; rintro e w3 ⟨rfl, hg⟩
        have HG3 := Lib.hid (Gr.trans HG2.out hg)
        clear hg HG2 
        go_wp2
        go_ret
        exact ⟨rfl, HG3.out⟩
    · skip
      clear htab hmx herr hp hR hs hlc
      generalize L.length = n at *
      intro w hg
      have HG0 := Lib.hid hg
      clear hg
      go_enter Tryz.func9, Tryz.ntmps9
      go_wp2_with fail
      refine (CF.out _ HG0.out).mono ?_; rintro e w1 ⟨⟨bb, rfl⟩, hg⟩
      have HG1 := Lib.hid (Gr.trans HG0.out hg); clear hg HG0
      cases bb
      · skip
        go_wp2_with fail
        refine (AW.out _ HG1.out).mono ?_; rintro e w2 ⟨rfl, hg⟩
        have HG2 := Lib.hid (Gr.trans HG1.out hg)
        clear hg HG1 
        go_wp2
        go_ret
        exact ⟨rfl, HG2.out⟩
      · by_cases h0 : n = 0
        · have k0 : ((n : Int) == 0) = true := by rw [beq_iff_eq]; omega
          go_wp2_with fail
          refine (AW.out _ HG1.out).mono ?_; rintro e w2 ⟨rfl, hg⟩
          have HG2 := Lib.hid (Gr.trans HG1.out hg)
          clear hg HG1 
          go_wp2
          go_ret
          exact ⟨rfl, HG2.out⟩
        · have k0 : ((n : Int) == 0) = false := by rw [beq_eq_false_iff_ne]; omega
          have k4 : decide ((n : Int) > 4) = true := decide_eq_true (by omega)
          have k4' : decide ((4 : Int) < (n : Int)) = true := decide_eq_true (by omega)
          go_wp2_with fail
          refine (AW.out _ HG1.out).mono ?_; rintro e w2 ⟨rfl, hg⟩
          have HG2 := Lib.hid (Gr.trans HG1.out hg)
          clear hg HG1 
          go_wp2
          go_ret
          exact ⟨rfl, HG2.out⟩
end
end Go.Proofs.YtlbnibicehpobaaGreatDoor
