/- CwFl: CwG, CwH, joined. -/
import Derived.Test.YtlbnibicehpobaaGreatDoorCwDE
set_option linter.unusedVariables false
set_option linter.unusedSimpArgs false

/- Law 9: right; what is asked of a right curve. -/
namespace Go.Proofs.YtlbnibicehpobaaGreatDoor.Z
open Go
def rightC (l : Pts) (s : ByteArray) : Bool := decide (l.length ≤ 40) && (decide (s.size ≤ 120) && ((atC l s).2 == 0))
theorem rightC_true {l : Pts} {s : ByteArray} (h : rightC l s = true) : Cv l ∧ ∃ r : Rat, s = RT r ∧ Sh 120 r ∧ lvlQ r = true := by
  unfold rightC at h
  simp only [Bool.and_eq_true, decide_eq_true_eq, beq_iff_eq] at h
  obtain ⟨-, h120, h⟩ := h
  unfold atC at h
  by_cases hc : cvC l = 0
  · rw [if_neg (by simp [hc])] at h
    by_cases he : compE s = 0
    · obtain ⟨a, ha, -, hl⟩ := compE_zero he
      have hk : chkS s = 0 := by
        by_cases hk : chkS s = 0
        · exact hk
        · rw [compE_err hk] at he; exact absurd he hk
      obtain ⟨r, hr, hs, -⟩ := text_sh hk h120
      have : a = r := RT_inj (ha.symm.trans hr)
      subst this
      exact ⟨(cvC_iff _).1 hc, a, hr, hs, hl⟩
    · rw [if_pos he] at h; exact absurd h he
  · rw [if_pos hc] at h; exact absurd h hc
theorem atC_right {l : Pts} {r : Rat} {k : Nat} (hc : Cv l) (hl : lvlQ r = true) (hs : Sh k r) (hk : k ≤ 4096) : atC l (RT r) = (RT (valC l r), 0) := by
  unfold atC
  rw [if_neg (by simp [(cvC_iff l).2 hc]), if_neg (by rw [compE_RT (hs.inR hk), if_pos hl]; decide), rv_RT]
theorem Cv.isJ {l : Pts} (h : Cv l) : ∀ p ∈ l, isJ p.1 ∧ isJ p.2 := fun p hp => by
  obtain ⟨⟨a, b⟩, c, d⟩ := h.lv p hp
  unfold Go.Proofs.YtlbnibicehpobaaGreatDoor.isJ
  omega
theorem Cv.lvlV {l : Pts} (h : Cv l) {r : Rat} (hl : lvlQ r = true) : lvlQ (valC l r) = true := by
  obtain ⟨h0, h1⟩ := lvlQ_iff.1 hl
  obtain ⟨k, hk⟩ := h.seg h0 h1
  exact lvlQ_iff.2 (seg_lvl h hk)
end Go.Proofs.YtlbnibicehpobaaGreatDoor.Z
namespace Go.Proofs.YtlbnibicehpobaaGreatDoor
open Go.RowKit Go.Shelf
open Z
/-- a slice of memory that reads as a list of points, with its room -/
def Cu (w : World) (a : Option Addr) (n c : Nat) (l : Pts) : Prop := PtAt w a l ∧ l.length = n ∧ n ≤ c ∧ c ≤ maxLen
theorem Cu.gr {w w' : World} {a : Option Addr} {n c : Nat} {l : Pts} (h : Cu w a n c l) (hg : Gr w w') : Cu w' a n c l := ⟨h.1.gr hg, h.2⟩
theorem OwnC.cu {B : Nat} {w : World} {v : Value} {l : Pts} (h : OwnC B w v l) (h0 : 0 < l.length) : ∃ a c, v = .slice a l.length c ∧ Cu w a l.length c l := by
  obtain ⟨g, c, e, -, h1, h2⟩ := h.room h0
  subst e
  obtain ⟨-, hp⟩ := h.ptAt
  exact ⟨_, c, rfl, hp, rfl, h1, h2⟩
theorem same_cu {w : World} {a b : Option Addr} {M : Pts} {n c d : Nat} (h : Cu w a n c M) (h' : Cu w b n d M) (h16 : n ≤ 16) :
    Calls Tryz.prog 17 #[.slice a n c, .slice b n d] w fun e w' => e = .returned (.bool true) ∧ Gr w w' :=
  same_self h.1 h'.1 h.2.1 (by omega)
section
variable {w0 : World}
set_option maxHeartbeats 4000000 in
set_option maxRecDepth 100000 in
theorem l9_right {a : Option Addr} {cap : Nat} {l : Pts} {s : ByteArray} (w : World) (hg0 : Gr w0 w) (hp : PtAt w a l) (hJ : ∀ p ∈ l, isJ p.1 ∧ isJ p.2) (hlen : l.length ≤ 10000000000000) (hs : s.size ≤ maxLen) :
    Calls Tryz.prog 31 #[.slice a l.length cap, .string s] w fun e w' => e = .returned (.bool (rightC l s)) ∧ Gr w w' := by
  have HF := Lib.hid (RetG.of4 (w0 := w0) fun w1 _ => ret_Few2 (w0 := w1) hs)
  have CF := Lib.hid (fun w => r9_Few a l.length cap w)
  unfold rightC
  by_cases h40 : l.length ≤ 40
  · rw [decide_eq_true h40] at CF ⊢
    by_cases h120 : s.size ≤ 120
    · rw [decide_eq_true h120] at HF ⊢
      have C2 := Lib.hid (fun w1 (hg : Gr w w1) => r9_At (cap := cap) w1 (hp.gr hg) hJ hlen (s := s) (by omega))
      obtain ⟨A, hA⟩ : ∃ A, atC l s = A := ⟨_, rfl⟩
      rw [hA] at C2 ⊢
      obtain ⟨A1, A2⟩ := A
      unfold vSI at C2
      simp only [] at C2
      generalize l.length = n at *
      have HG := Lib.hid hg0
      clear hp hJ hA hg0
      go_enter Tryz.func31, Tryz.ntmps31
      go_wp2_with fail
      refine (CF.out _).mono ?_; rintro e w1 ⟨rfl, rfl⟩
      go_wp2_with fail
      refine (HF.out _ HG.out).mono ?_; rintro e w2 ⟨rfl, hg⟩
      have HG2 := Lib.hid hg; clear hg
      go_wp2_with fail
      refine (C2.out _ HG2.out).mono ?_; rintro e w3 ⟨rfl, hg⟩
      have HG3 := Lib.hid (Gr.trans HG2.out hg); clear hg C2 CF HF
      go_wp2
      go_ret
      exact ⟨rfl, HG3.out⟩
    · rw [decide_eq_false h120] at HF ⊢
      generalize l.length = n at *
      have HG := Lib.hid hg0
      clear hp hJ hg0
      go_enter Tryz.func31, Tryz.ntmps31
      go_wp2_with fail
      refine (CF.out _).mono ?_; rintro e w1 ⟨rfl, rfl⟩
      go_wp2_with fail
      refine (HF.out _ HG.out).mono ?_; rintro e w2 ⟨rfl, hg⟩
      have HG2 := Lib.hid hg; clear hg CF HF
      go_wp2
      go_ret
      exact ⟨rfl, HG2.out⟩
  · rw [decide_eq_false h40] at CF ⊢
    generalize l.length = n at *
    clear hp hJ hg0
    go_enter Tryz.func31, Tryz.ntmps31
    go_wp2_with fail
    refine (CF.out _).mono ?_; rintro e w1 ⟨rfl, rfl⟩
    go_wp2
    go_ret
    exact ⟨rfl, Gr.refl _⟩
variable (htab : Tab w0) (hmx : Mx w0) (herr : ErrR w0)
include htab hmx herr in
theorem ok_At {a : Option Addr} {n cap k : Nat} {l : Pts} {r : Rat} (w : World) (hg : Gr w0 w) (hp : Cu w a n cap l) (hc : Cv l) (hl : lvlQ r = true) (hs : Sh k r) (hk : k ≤ 900) :
    Calls Tryz.prog 13 #[.slice a n cap, .string (RT r)] w fun e w' => e = .returned (.tuple #[.string (RT (valC l r)), .int .i64 0]) ∧ Gr w w' := by
  obtain ⟨hp, rfl, -, -⟩ := hp
  have h := cv_At (cap := cap) htab hmx herr w hg hp hc.isJ (by have := hc.most; omega) (s := RT r) (by have := RT_size hs; omega)
  rwa [atC_right hc hl hs (by omega)] at h
theorem ok_Flip {a : Option Addr} {n cap : Nat} {l : Pts} (w : World) (hp : Cu w a n cap l) (hc : Cv l) :
    Calls Tryz.prog 27 #[.slice a n cap] w fun e w' => ∃ b c, e = .returned (.tuple #[.slice b n c, .int .i64 0]) ∧ Cu w' b n c (flipP l) ∧ Gr w w' := by
  obtain ⟨hp, rfl, -, -⟩ := hp
  have h := cv_Flip a l cap w hp hc.isJ (by have := hc.most; omega)
  unfold flipC at h
  rw [if_neg (by simp [(cvC_iff l).2 hc])] at h
  refine h.mono ?_
  rintro e w' ⟨v, rfl, ho, hg⟩
  obtain ⟨b, c, rfl, h1⟩ := ho.cu (by rw [flip_len]; have := hc.two; omega)
  rw [flip_len] at h1 ⊢
  exact ⟨b, c, rfl, h1, hg⟩
theorem ok_Tidy {a : Option Addr} {n cap : Nat} {l : Pts} (w : World) (hp : Cu w a n cap l) (hc : Cv l) :
    Calls Tryz.prog 29 #[.slice a n cap] w fun e w' => ∃ b c, e = .returned (.tuple #[.slice b (tidyP l).length c, .int .i64 0]) ∧ Cu w' b (tidyP l).length c (tidyP l) ∧ Gr w w' := by
  obtain ⟨hp, rfl, h1, h2⟩ := hp
  have h := cv_Tidy a l cap w hp hc.isJ h1 h2 (by have := hc.most; omega)
  unfold tidyC at h
  rw [if_neg (by simp [(cvC_iff l).2 hc])] at h
  refine h.mono ?_
  rintro e w' ⟨v, rfl, ho, hg⟩
  obtain ⟨b, c, rfl, h1⟩ := ho.cu (by have := (tidyP_cv hc).two; show 0 < (tidyP l).length; omega)
  exact ⟨b, c, rfl, h1, hg⟩
theorem ok_Slope {a : Option Addr} {n cap : Nat} {l : Pts} (w : World) (hp : Cu w a n cap l) (hc : Cv l) :
    Calls Tryz.prog 23 #[.slice a n cap] w fun e w' => e = .returned (.tuple #[.int .i64 (steepC l), .int .i64 0]) ∧ Gr w w' := by
  obtain ⟨hp, rfl, h1, h2⟩ := hp
  have h := cv_Slope a l cap w hp hc.isJ h1 h2 (by have := hc.most; omega)
  unfold slopeC at h
  rwa [if_neg (by simp [(cvC_iff l).2 hc])] at h
/-- the inverse of a curve that has one -/
theorem ok_Inverse {a : Option Addr} {n cap : Nat} {l : Pts} (w : World) (hp : Cu w a n cap l) (hc : Cv l) (ht : Cv (turnP l)) :
    Calls Tryz.prog 25 #[.slice a n cap] w fun e w' => ∃ b c, e = .returned (.tuple #[.slice b n c, .int .i64 0]) ∧ Cu w' b n c (turnP l) ∧ Gr w w' := by
  obtain ⟨hp, rfl, h1, h2⟩ := hp
  have h := cv_Inverse a l cap w hp hc.isJ h1 h2 (by have := hc.most; omega)
  rw [invC_turn hc, if_pos ((cvC_iff _).2 ht)] at h
  refine h.mono ?_
  rintro e w' ⟨v, rfl, ho, hg⟩
  have hn : (turnP l).length = l.length := by unfold turnP; split <;> simp [swap_len]
  obtain ⟨b, c, rfl, h1⟩ := ho.cu (by have := ht.two; show 0 < (turnP l).length; omega)
  rw [hn] at h1 ⊢
  exact ⟨b, c, rfl, h1, hg⟩
theorem no_Inverse {a : Option Addr} {n cap : Nat} {l : Pts} (w : World) (hp : Cu w a n cap l) (hc : Cv l) (ht : ¬ Cv (turnP l)) :
    Calls Tryz.prog 25 #[.slice a n cap] w fun e w' => ∃ v, e = .returned (.tuple #[v, .int .i64 16]) ∧ Gr w w' := by
  obtain ⟨hp, rfl, h1, h2⟩ := hp
  have h := cv_Inverse a l cap w hp hc.isJ h1 h2 (by have := hc.most; omega)
  rw [invC_turn hc, if_neg (fun e => ht ((cvC_iff _).1 e))] at h
  refine h.mono ?_
  rintro e w' ⟨v, rfl, -, hg⟩
  exact ⟨v, rfl, hg⟩
end
end Go.Proofs.YtlbnibicehpobaaGreatDoor

/- Law 9: CurveFlips. -/
namespace Go.Proofs.YtlbnibicehpobaaGreatDoor
open Go.RowKit Go.Shelf
open Z
section
variable {w0 : World} (htab : Tab w0) (hmx : Mx w0) (herr : ErrR w0)
include htab hmx herr
set_option maxHeartbeats 4000000 in
set_option maxRecDepth 100000 in
theorem l9_CurveFlips {a : Option Addr} {cap : Nat} {l : Pts} {s : ByteArray} (hp : PtAt w0 a l) (hJ : ∀ p ∈ l, isJ p.1 ∧ isJ p.2) (hlc : l.length ≤ cap) (hcm : cap ≤ maxLen) (hlen : l.length ≤ 10000000000000) (hs : s.size ≤ maxLen) : Ret w0 8 #[.slice a l.length cap, .string s] (.bool true) := by
  have AW := Lib.hid (RetG.of4 (w0 := w0) fun w1 h => l9_awake (htab_gr htab h) (hmx.gr h) (herr.gr h))
  have RI := Lib.hid (fun w (hg : Gr w0 w) => l9_right (cap := cap) w hg (hp.gr hg) hJ hlen hs)
  by_cases hr : rightC l s = true
  · rw [hr] at RI
    obtain ⟨hc, r, rfl, hsh, hl⟩ := rightC_true hr
    have h16 := hc.most
    have hsy := cv_shV hc hl hsh
    have hsz := cv_shV (flipP_cv hc) hl hsh
    have hsum : valC l r + valC (flipP l) r = ((65535 : Int) : Rat) := by
      rw [valC_flip hc.two]
      have : ((65535 : Int) : Rat) = (65535 : Rat) := by decide +kernel
      rw [this]; grind
    have A1 := Lib.hid (fun n c w (hg : Gr w0 w) (h : Cu w a n c l) => ok_At htab hmx herr w hg h hc hl hsh (by omega))
    have A2 := Lib.hid (fun b n c w (hg : Gr w0 w) (h : Cu w b n c (flipP l)) => ok_At htab hmx herr w hg h (flipP_cv hc) hl hsh (by omega))
    have A3 := Lib.hid (fun b n c w (hg : Gr w0 w) (h : Cu w b n c (tidyP l)) => ok_At htab hmx herr w hg h (tidyP_cv hc) hl hsh (by omega))
    rw [tidyP_val hc] at A3
    have F1 := Lib.hid (fun n c w (h : Cu w a n c l) => ok_Flip w h hc)
    have F2 := Lib.hid (fun b n c w (h : Cu w b n c (flipP l)) => ok_Flip w h (flipP_cv hc))
    rw [flipP_flipP] at F2
    have T1 := Lib.hid (fun n c w (h : Cu w a n c l) => ok_Tidy w h hc)
    have T2 := Lib.hid (fun b n c w (h : Cu w b n c (tidyP l)) => ok_Tidy w h (tidyP_cv hc))
    rw [tidyP_tidy hc] at T2
    have K1 := Lib.hid (RetG.of4 (w0 := w0) fun w1 _ => r2_Check (w0 := w1) (RT (valC l r)) (by have := RT_size hsy; omega))
    have K2 := Lib.hid (RetG.of4 (w0 := w0) fun w1 _ => r2_Check (w0 := w1) (RT (valC (flipP l) r)) (by have := RT_size hsz; omega))
    rw [chkS_RT (hsy.inR (by omega))] at K1
    rw [chkS_RT (hsz.inR (by omega))] at K2
    have PL := Lib.hid (RetG.of4 (w0 := w0) fun w1 _ => ret_Plus (w0 := w1) hsy hsz (by omega) (by omega))
    rw [hsum, RT_int] at PL
    have WH := Lib.hid (RetG.of4 (w0 := w0) fun w1 _ => ret_Whole2 (w0 := w1) (n := 65535) (by omega) (by omega))
    have CU := Lib.hid (show Cu w0 a l.length cap l from ⟨hp, rfl, hlc, hcm⟩)
    have hm : (tidyP l).length ≤ l.length := (tidyP_sub l).length_le
    have SA := Lib.hid (fun b c d w (h : Cu w b l.length c l) (h' : Cu w a l.length d l) => same_cu h h' h16)
    have SB := Lib.hid (fun b b' c d w (h : Cu w b (tidyP l).length c (tidyP l)) (h' : Cu w b' (tidyP l).length d (tidyP l)) => same_cu h h' (by omega))
    generalize flipP l = fl at *
    generalize (tidyP l).length = m at *
    generalize tidyP l = tl at *
    generalize l.length = n at *
    generalize RT (valC l r) = Y at *
    generalize RT (valC fl r) = Zt at *
    generalize RT r = R at *
    generalize Tx 65535 = Mx65 at *
    have by1 := cw_beq Y
    have by2 := cw_beq Mx65
    have km : decide ((m : Int) ≤ n) = true := decide_eq_true (by omega)
    clear htab hmx herr hp hJ hs hr hsh hl hc hsy hsz hsum
    intro w hg
    have HG0 := Lib.hid hg
    have CU_0 := Lib.hid (CU.out.gr hg)
    clear hg CU
    go_enter Tryz.func8, Tryz.ntmps8
    go_wp2_with fail
    refine (RI.out _ HG0.out).mono ?_; rintro e w1 ⟨rfl, hg⟩
    have HG1 := Lib.hid (Gr.trans HG0.out hg)
    have CU_1 := Lib.hid (CU_0.out.gr hg)
    clear hg HG0 CU_0
    go_wp2_with fail
    refine (A1.out _ _ _ HG1.out CU_1.out).mono ?_; rintro e w2 ⟨rfl, hg⟩
    have HG2 := Lib.hid (Gr.trans HG1.out hg)
    have CU_2 := Lib.hid (CU_1.out.gr hg)
    clear hg HG1 CU_1
    go_wp2_with fail
    refine (F1.out _ _ _ CU_2.out).mono ?_; rintro e w3 ⟨b1, c1, rfl, hf, hg⟩
    have HG3 := Lib.hid (Gr.trans HG2.out hg)
    have CU_3 := Lib.hid (CU_2.out.gr hg)
    have CF_3 := Lib.hid hf; clear hf
    clear hg HG2 CU_2
    go_wp2_with fail
    refine (F2.out _ _ _ _ CF_3.out).mono ?_; rintro e w4 ⟨b2, c2, rfl, hf, hg⟩
    have HG4 := Lib.hid (Gr.trans HG3.out hg)
    have CU_4 := Lib.hid (CU_3.out.gr hg)
    have CF_4 := Lib.hid (CF_3.out.gr hg)
    have CG_4 := Lib.hid hf; clear hf
    clear hg HG3 CU_3 CF_3
    go_wp2_with fail
    refine (A2.out _ _ _ _ HG4.out CF_4.out).mono ?_; rintro e w5 ⟨rfl, hg⟩
    have HG5 := Lib.hid (Gr.trans HG4.out hg)
    have CU_5 := Lib.hid (CU_4.out.gr hg)
    have CG_5 := Lib.hid (CG_4.out.gr hg)
    clear hg HG4 CU_4 CF_4 CG_4
    go_wp2_with fail
    refine (T1.out _ _ _ CU_5.out).mono ?_; rintro e w6 ⟨b3, c3, rfl, hf, hg⟩
    have HG6 := Lib.hid (Gr.trans HG5.out hg)
    have CU_6 := Lib.hid (CU_5.out.gr hg)
    have CG_6 := Lib.hid (CG_5.out.gr hg)
    have CT_6 := Lib.hid hf; clear hf
    clear hg HG5 CU_5 CG_5
    go_wp2_with fail
    refine (T2.out _ _ _ _ CT_6.out).mono ?_; rintro e w7 ⟨b4, c4, rfl, hf, hg⟩
    have HG7 := Lib.hid (Gr.trans HG6.out hg)
    have CU_7 := Lib.hid (CU_6.out.gr hg)
    have CG_7 := Lib.hid (CG_6.out.gr hg)
    have CT_7 := Lib.hid (CT_6.out.gr hg)
    have CV_7 := Lib.hid hf; clear hf
    clear hg HG6 CU_6 CG_6 CT_6
    go_wp2_with fail
    refine (A3.out _ _ _ _ HG7.out CT_7.out).mono ?_; rintro e w8 ⟨rfl, hg⟩
    have HG8 := Lib.hid (Gr.trans HG7.out hg)
    have CU_8 := Lib.hid (CU_7.out.gr hg)
    have CG_8 := Lib.hid (CG_7.out.gr hg)
    have CT_8 := Lib.hid (CT_7.out.gr hg)
    have CV_8 := Lib.hid (CV_7.out.gr hg)
    clear hg HG7 CU_7 CG_7 CT_7 CV_7
    go_wp2_with fail
    refine (K1.out _ HG8.out).mono ?_; rintro e w9 ⟨rfl, hg⟩
    have HG9 := Lib.hid (Gr.trans HG8.out hg)
    have CU_9 := Lib.hid (CU_8.out.gr hg)
    have CG_9 := Lib.hid (CG_8.out.gr hg)
    have CT_9 := Lib.hid (CT_8.out.gr hg)
    have CV_9 := Lib.hid (CV_8.out.gr hg)
    clear hg HG8 CU_8 CG_8 CT_8 CV_8
    go_wp2_with fail
    refine (K2.out _ HG9.out).mono ?_; rintro e w10 ⟨rfl, hg⟩
    have HG10 := Lib.hid (Gr.trans HG9.out hg)
    have CU_10 := Lib.hid (CU_9.out.gr hg)
    have CG_10 := Lib.hid (CG_9.out.gr hg)
    have CT_10 := Lib.hid (CT_9.out.gr hg)
    have CV_10 := Lib.hid (CV_9.out.gr hg)
    clear hg HG9 CU_9 CG_9 CT_9 CV_9
    go_wp2_with fail
    refine (PL.out _ HG10.out).mono ?_; rintro e w11 ⟨rfl, hg⟩
    have HG11 := Lib.hid (Gr.trans HG10.out hg)
    have CU_11 := Lib.hid (CU_10.out.gr hg)
    have CG_11 := Lib.hid (CG_10.out.gr hg)
    have CT_11 := Lib.hid (CT_10.out.gr hg)
    have CV_11 := Lib.hid (CV_10.out.gr hg)
    clear hg HG10 CU_10 CG_10 CT_10 CV_10
    go_wp2_with fail
    refine (WH.out _ HG11.out).mono ?_; rintro e w12 ⟨rfl, hg⟩
    have HG12 := Lib.hid (Gr.trans HG11.out hg)
    have CU_12 := Lib.hid (CU_11.out.gr hg)
    have CG_12 := Lib.hid (CG_11.out.gr hg)
    have CT_12 := Lib.hid (CT_11.out.gr hg)
    have CV_12 := Lib.hid (CV_11.out.gr hg)
    clear hg HG11 CU_11 CG_11 CT_11 CV_11
    go_wp2_with fail
    refine (SA.out _ _ _ _ CG_12.out CU_12.out).mono ?_; rintro e w13 ⟨rfl, hg⟩
    have HG13 := Lib.hid (Gr.trans HG12.out hg)
    have CT_13 := Lib.hid (CT_12.out.gr hg)
    have CV_13 := Lib.hid (CV_12.out.gr hg)
    clear hg HG12 CU_12 CG_12 CT_12 CV_12
    go_wp2_with fail
    refine (SB.out _ _ _ _ _ CT_13.out CV_13.out).mono ?_; rintro e w14 ⟨rfl, hg⟩
    have HG14 := Lib.hid (Gr.trans HG13.out hg)
    clear hg HG13 CT_13 CV_13
    go_wp2_with fail
    refine (AW.out _ HG14.out).mono ?_; rintro e w15 ⟨rfl, hg⟩
    have HG15 := Lib.hid (Gr.trans HG14.out hg)
    clear hg HG14 
    go_wp2
    go_ret
    exact ⟨rfl, HG15.out⟩
  · rw [Bool.not_eq_true] at hr
    rw [hr] at RI
    generalize l.length = n at *
    clear htab hmx herr hp hJ hr
    intro w hg
    have HG0 := Lib.hid hg
    clear hg
    go_enter Tryz.func8, Tryz.ntmps8
    go_wp2_with fail
    refine (RI.out _ HG0.out).mono ?_; rintro e w1 ⟨rfl, hg⟩
    have HG1 := Lib.hid (Gr.trans HG0.out hg)
    clear hg HG0 
    go_wp2_with fail
    refine (AW.out _ HG1.out).mono ?_; rintro e w2 ⟨rfl, hg⟩
    have HG2 := Lib.hid (Gr.trans HG1.out hg)
    clear hg HG1 
    go_wp2
    go_ret
    exact ⟨rfl, HG2.out⟩
end
end Go.Proofs.YtlbnibicehpobaaGreatDoor
