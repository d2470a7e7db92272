/- CwRe: CwG, CwI, joined. -/
import Derived.Test.YtlbnibicehpobaaGreatDoorCwDE
set_option linter.unusedVariables false
set_option linter.unusedSimpArgs false

/- Law 9: right; what is asked of a right curve. -/
namespace Go.Proofs.YtlbnibicehpobaaGreatDoor.Z
open Go
def rightC (l : Pts) (s : ByteArray) : Bool := decide (l.length ≤ 40) && (decide (s.size ≤ 120) && ((atC l s).2 == 0))
theorem rightC_true {l : Pts} {s : ByteArray} (h : rightC l s = true) : Cv l ∧ ∃ r : Rat, s = RT r ∧ Sh 120 r ∧ lvlQ r = true := by
  unfold rightC at h
  simp only [Bool.and_eq_true, decide_eq_true_eq, beq_iff_eq] at h
  obtain ⟨-, h120, h⟩ := h
  unfold atC at h
  by_cases hc : cvC l = 0
  · rw [if_neg (by simp [hc])] at h
    by_cases he : compE s = 0
    · obtain ⟨a, ha, -, hl⟩ := compE_zero he
      have hk : chkS s = 0 := by
        by_cases hk : chkS s = 0
        · exact hk
        · rw [compE_err hk] at he; exact absurd he hk
      obtain ⟨r, hr, hs, -⟩ := text_sh hk h120
      have : a = r := RT_inj (ha.symm.trans hr)
      subst this
      exact ⟨(cvC_iff _).1 hc, a, hr, hs, hl⟩
    · rw [if_pos he] at h; exact absurd h he
  · rw [if_pos hc] at h; exact absurd h hc
theorem atC_right {l : Pts} {r : Rat} {k : Nat} (hc : Cv l) (hl : lvlQ r = true) (hs : Sh k r) (hk : k ≤ 4096) : atC l (RT r) = (RT (valC l r), 0) := by
  unfold atC
  rw [if_neg (by simp [(cvC_iff l).2 hc]), if_neg (by rw [compE_RT (hs.inR hk), if_pos hl]; decide), rv_RT]
theorem Cv.isJ {l : Pts} (h : Cv l) : ∀ p ∈ l, isJ p.1 ∧ isJ p.2 := fun p hp => by
  obtain ⟨⟨a, b⟩, c, d⟩ := h.lv p hp
  unfold Go.Proofs.YtlbnibicehpobaaGreatDoor.isJ
  omega
theorem Cv.lvlV {l : Pts} (h : Cv l) {r : Rat} (hl : lvlQ r = true) : lvlQ (valC l r) = true := by
  obtain ⟨h0, h1⟩ := lvlQ_iff.1 hl
  obtain ⟨k, hk⟩ := h.seg h0 h1
  exact lvlQ_iff.2 (seg_lvl h hk)
end Go.Proofs.YtlbnibicehpobaaGreatDoor.Z
namespace Go.Proofs.YtlbnibicehpobaaGreatDoor
open Go.RowKit Go.Shelf
open Z
/-- a slice of memory that reads as a list of points, with its room -/
def Cu (w : World) (a : Option Addr) (n c : Nat) (l : Pts) : Prop := PtAt w a l ∧ l.length = n ∧ n ≤ c ∧ c ≤ maxLen
theorem Cu.gr {w w' : World} {a : Option Addr} {n c : Nat} {l : Pts} (h : Cu w a n c l) (hg : Gr w w') : Cu w' a n c l := ⟨h.1.gr hg, h.2⟩
theorem OwnC.cu {B : Nat} {w : World} {v : Value} {l : Pts} (h : OwnC B w v l) (h0 : 0 < l.length) : ∃ a c, v = .slice a l.length c ∧ Cu w a l.length c l := by
  obtain ⟨g, c, e, -, h1, h2⟩ := h.room h0
  subst e
  obtain ⟨-, hp⟩ := h.ptAt
  exact ⟨_, c, rfl, hp, rfl, h1, h2⟩
theorem same_cu {w : World} {a b : Option Addr} {M : Pts} {n c d : Nat} (h : Cu w a n c M) (h' : Cu w b n d M) (h16 : n ≤ 16) :
    Calls Tryz.prog 17 #[.slice a n c, .slice b n d] w fun e w' => e = .returned (.bool true) ∧ Gr w w' :=
  same_self h.1 h'.1 h.2.1 (by omega)
section
variable {w0 : World}
set_option maxHeartbeats 4000000 in
set_option maxRecDepth 100000 in
theorem l9_right {a : Option Addr} {cap : Nat} {l : Pts} {s : ByteArray} (w : World) (hg0 : Gr w0 w) (hp : PtAt w a l) (hJ : ∀ p ∈ l, isJ p.1 ∧ isJ p.2) (hlen : l.length ≤ 10000000000000) (hs : s.size ≤ maxLen) :
    Calls Tryz.prog 31 #[.slice a l.length cap, .string s] w fun e w' => e = .returned (.bool (rightC l s)) ∧ Gr w w' := by
  have HF := Lib.hid (RetG.of4 (w0 := w0) fun w1 _ => ret_Few2 (w0 := w1) hs)
  have CF := Lib.hid (fun w => r9_Few a l.length cap w)
  unfold rightC
  by_cases h40 : l.length ≤ 40
  · rw [decide_eq_true h40] at CF ⊢
    by_cases h120 : s.size ≤ 120
    · rw [decide_eq_true h120] at HF ⊢
      have C2 := Lib.hid (fun w1 (hg : Gr w w1) => r9_At (cap := cap) w1 (hp.gr hg) hJ hlen (s := s) (by omega))
      obtain ⟨A, hA⟩ : ∃ A, atC l s = A := ⟨_, rfl⟩
      rw [hA] at C2 ⊢
      obtain ⟨A1, A2⟩ := A
      unfold vSI at C2
      simp only [] at C2
      generalize l.length = n at *
      have HG := Lib.hid hg0
      clear hp hJ hA hg0
      go_enter Tryz.func31, Tryz.ntmps31
      go_wp2_with fail
      refine (CF.out _).mono ?_; rintro e w1 ⟨rfl, rfl⟩
      go_wp2_with fail
      refine (HF.out _ HG.out).mono ?_; rintro e w2 ⟨rfl, hg⟩
      have HG2 := Lib.hid hg; clear hg
      go_wp2_with fail
      refine (C2.out _ HG2.out).mono ?_; rintro e w3 ⟨rfl, hg⟩
      have HG3 := Lib.hid (Gr.trans HG2.out hg); clear hg C2 CF HF
      go_wp2
      go_ret
      exact ⟨rfl, HG3.out⟩
    · rw [decide_eq_false h120] at HF ⊢
      generalize l.length = n at *
      have HG := Lib.hid hg0
      clear hp hJ hg0
      go_enter Tryz.func31, Tryz.ntmps31
      go_wp2_with fail
      refine (CF.out _).mono ?_; rintro e w1 ⟨rfl, rfl⟩
      go_wp2_with fail
      refine (HF.out _ HG.out).mono ?_; rintro e w2 ⟨rfl, hg⟩
      have HG2 := Lib.hid hg; clear hg CF HF
      go_wp2
      go_ret
      exact ⟨rfl, HG2.out⟩
  · rw [decide_eq_false h40] at CF ⊢
    generalize l.length = n at *
    clear hp hJ hg0
    go_enter Tryz.func31, Tryz.ntmps31
    go_wp2_with fail
    refine (CF.out _).mono ?_; rintro e w1 ⟨rfl, rfl⟩
    go_wp2
    go_ret
    exact ⟨rfl, Gr.refl _⟩
variable (htab : Tab w0) (hmx : Mx w0) (herr : ErrR w0)
include htab hmx herr in
theorem ok_At {a : Option Addr} {n cap k : Nat} {l : Pts} {r : Rat} (w : World) (hg : Gr w0 w) (hp : Cu w a n cap l) (hc : Cv l) (hl : lvlQ r = true) (hs : Sh k r) (hk : k ≤ 900) :
    Calls Tryz.prog 13 #[.slice a n cap, .string (RT r)] w fun e w' => e = .returned (.tuple #[.string (RT (valC l r)), .int .i64 0]) ∧ Gr w w' := by
  obtain ⟨hp, rfl, -, -⟩ := hp
  have h := cv_At (cap := cap) htab hmx herr w hg hp hc.isJ (by have := hc.most; omega) (s := RT r) (by have := RT_size hs; omega)
  rwa [atC_right hc hl hs (by omega)] at h
theorem ok_Flip {a : Option Addr} {n cap : Nat} {l : Pts} (w : World) (hp : Cu w a n cap l) (hc : Cv l) :
    Calls Tryz.prog 27 #[.slice a n cap] w fun e w' => ∃ b c, e = .returned (.tuple #[.slice b n c, .int .i64 0]) ∧ Cu w' b n c (flipP l) ∧ Gr w w' := by
  obtain ⟨hp, rfl, -, -⟩ := hp
  have h := cv_Flip a l cap w hp hc.isJ (by have := hc.most; omega)
  unfold flipC at h
  rw [if_neg (by simp [(cvC_iff l).2 hc])] at h
  refine h.mono ?_
  rintro e w' ⟨v, rfl, ho, hg⟩
  obtain ⟨b, c, rfl, h1⟩ := ho.cu (by rw [flip_len]; have := hc.two; omega)
  rw [flip_len] at h1 ⊢
  exact ⟨b, c, rfl, h1, hg⟩
theorem ok_Tidy {a : Option Addr} {n cap : Nat} {l : Pts} (w : World) (hp : Cu w a n cap l) (hc : Cv l) :
    Calls Tryz.prog 29 #[.slice a n cap] w fun e w' => ∃ b c, e = .returned (.tuple #[.slice b (tidyP l).length c, .int .i64 0]) ∧ Cu w' b (tidyP l).length c (tidyP l) ∧ Gr w w' := by
  obtain ⟨hp, rfl, h1, h2⟩ := hp
  have h := cv_Tidy a l cap w hp hc.isJ h1 h2 (by have := hc.most; omega)
  unfold tidyC at h
  rw [if_neg (by simp [(cvC_iff l).2 hc])] at h
  refine h.mono ?_
  rintro e w' ⟨v, rfl, ho, hg⟩
  obtain ⟨b, c, rfl, h1⟩ := ho.cu (by have := (tidyP_cv hc).two; show 0 < (tidyP l).length; omega)
  exact ⟨b, c, rfl, h1, hg⟩
theorem ok_Slope {a : Option Addr} {n cap : Nat} {l : Pts} (w : World) (hp : Cu w a n cap l) (hc : Cv l) :
    Calls Tryz.prog 23 #[.slice a n cap] w fun e w' => e = .returned (.tuple #[.int .i64 (steepC l), .int .i64 0]) ∧ Gr w w' := by
  obtain ⟨hp, rfl, h1, h2⟩ := hp
  have h := cv_Slope a l cap w hp hc.isJ h1 h2 (by have := hc.most; omega)
  unfold slopeC at h
  rwa [if_neg (by simp [(cvC_iff l).2 hc])] at h
/-- the inverse of a curve that has one -/
theorem ok_Inverse {a : Option Addr} {n cap : Nat} {l : Pts} (w : World) (hp : Cu w a n cap l) (hc : Cv l) (ht : Cv (turnP l)) :
    Calls Tryz.prog 25 #[.slice a n cap] w fun e w' => ∃ b c, e = .returned (.tuple #[.slice b n c, .int .i64 0]) ∧ Cu w' b n c (turnP l) ∧ Gr w w' := by
  obtain ⟨hp, rfl, h1, h2⟩ := hp
  have h := cv_Inverse a l cap w hp hc.isJ h1 h2 (by have := hc.most; omega)
  rw [invC_turn hc, if_pos ((cvC_iff _).2 ht)] at h
  refine h.mono ?_
  rintro e w' ⟨v, rfl, ho, hg⟩
  have hn : (turnP l).length = l.length := by unfold turnP; split <;> simp [swap_len]
  obtain ⟨b, c, rfl, h1⟩ := ho.cu (by have := ht.two; show 0 < (turnP l).length; omega)
  rw [hn] at h1 ⊢
  exact ⟨b, c, rfl, h1, hg⟩
theorem no_Inverse {a : Option Addr} {n cap : Nat} {l : Pts} (w : World) (hp : Cu w a n cap l) (hc : Cv l) (ht : ¬ Cv (turnP l)) :
    Calls Tryz.prog 25 #[.slice a n cap] w fun e w' => ∃ v, e = .returned (.tuple #[v, .int .i64 16]) ∧ Gr w w' := by
  obtain ⟨hp, rfl, h1, h2⟩ := hp
  have h := cv_Inverse a l cap w hp hc.isJ h1 h2 (by have := hc.most; omega)
  rw [invC_turn hc, if_neg (fun e => ht ((cvC_iff _).1 e))] at h
  refine h.mono ?_
  rintro e w' ⟨v, rfl, -, hg⟩
  exact ⟨v, rfl, hg⟩
end
end Go.Proofs.YtlbnibicehpobaaGreatDoor

/- Law 9: CurveReturns. -/
namespace Go.Proofs.YtlbnibicehpobaaGreatDoor.Z
open Go
theorem steep_ord {l : Pts} (hc : Cv l) (hs : steepC l ≠ 0) (r q : Rat) : cmpQ (valC l r) (valC l q) = steepC l * cmpQ r q := by
  have up : upX l → ∀ {v w : Rat}, v < w → valC l v < valC l w := fun hu _ _ h => valC_up hc.asc hu hc.two h
  have dn : dnX l → ∀ {v w : Rat}, v < w → valC l w < valC l v := fun hd _ _ h => valC_down hc.asc hd hc.two h
  rcases steepC_is l with h | h | h
  · exact absurd h hs
  · have hu := steep_up.1 h
    rw [h]
    rcases cmpQ_cases r q with ⟨a, b, -⟩ | ⟨a, b, -⟩ | ⟨a, b, -⟩
    · rw [b, cmpQ_lt (up hu a)]; rfl
    · subst a; rw [cmpQ_self, cmpQ_self]; rfl
    · rw [b, cmpQ_gt (up hu a)]; rfl
  · have hd := (steep_down hc.two).1 h
    rw [h]
    rcases cmpQ_cases r q with ⟨a, b, -⟩ | ⟨a, b, -⟩ | ⟨a, b, -⟩
    · rw [b, cmpQ_gt (dn hd a)]; rfl
    · subst a; rw [cmpQ_self, cmpQ_self]; rfl
    · rw [b, cmpQ_lt (dn hd a)]; rfl
theorem turn_len (l : Pts) : (turnP l).length = l.length := by unfold turnP; split <;> simp [swap_len]
end Go.Proofs.YtlbnibicehpobaaGreatDoor.Z
namespace Go.Proofs.YtlbnibicehpobaaGreatDoor
open Go.RowKit Go.Shelf
open Z
section
variable {w0 : World} (htab : Tab w0) (hmx : Mx w0) (herr : ErrR w0)
include htab hmx herr
set_option maxHeartbeats 8000000 in
set_option maxRecDepth 100000 in
theorem l9_CurveReturns {a : Option Addr} {cap : Nat} {l : Pts} {s s' : ByteArray} (hp : PtAt w0 a l) (hJ : ∀ p ∈ l, isJ p.1 ∧ isJ p.2) (hlc : l.length ≤ cap) (hcm : cap ≤ maxLen) (hlen : l.length ≤ 10000000000000) (hs : s.size ≤ maxLen) (hs' : s'.size ≤ maxLen) : Ret w0 7 #[.slice a l.length cap, .string s, .string s'] (.bool true) := by
  have AW := Lib.hid (RetG.of4 (w0 := w0) fun w1 h => l9_awake (htab_gr htab h) (hmx.gr h) (herr.gr h))
  have RI := Lib.hid (fun w (hg : Gr w0 w) => l9_right (cap := cap) w hg (hp.gr hg) hJ hlen hs)
  have RJ := Lib.hid (fun w (hg : Gr w0 w) => l9_right (cap := cap) w hg (hp.gr hg) hJ hlen hs')
  by_cases hr : rightC l s = true
  · rw [hr] at RI
    by_cases hr' : rightC l s' = true
    · rw [hr'] at RJ
      obtain ⟨hc, r, rfl, hsh, hl⟩ := rightC_true hr
      obtain ⟨-, q, rfl, hsh', hl'⟩ := rightC_true hr'
      have h16 := hc.most
      have hsy := cv_shV hc hl hsh
      have hsz := cv_shV hc hl' hsh'
      have A1 := Lib.hid (fun n c w (hg : Gr w0 w) (h : Cu w a n c l) => ok_At htab hmx herr w hg h hc hl hsh (by omega))
      have A2 := Lib.hid (fun n c w (hg : Gr w0 w) (h : Cu w a n c l) => ok_At htab hmx herr w hg h hc hl' hsh' (by omega))
      have S1 := Lib.hid (fun n c w (h : Cu w a n c l) => ok_Slope w h hc)
      have K1 := Lib.hid (RetG.of4 (w0 := w0) fun w1 _ => r2_Check (w0 := w1) (RT (valC l r)) (by have := RT_size hsy; omega))
      have K2 := Lib.hid (RetG.of4 (w0 := w0) fun w1 _ => r2_Check (w0 := w1) (RT (valC l q)) (by have := RT_size hsz; omega))
      rw [chkS_RT (hsy.inR (by omega))] at K1
      rw [chkS_RT (hsz.inR (by omega))] at K2
      have O1 := Lib.hid (RetG.of4 (w0 := w0) fun w1 _ => ret_OrderR (w0 := w1) hsy hsz (by omega) (by omega))
      have O2 := Lib.hid (RetG.of4 (w0 := w0) fun w1 _ => ret_OrderR (w0 := w1) hsh hsh' (by omega) (by omega))
      have CU := Lib.hid (show Cu w0 a l.length cap l from ⟨hp, rfl, hlc, hcm⟩)
      have SA := Lib.hid (fun b c d w (h : Cu w b l.length c l) (h' : Cu w a l.length d l) => same_cu h h' h16)
      have hst := steepC_is l
      have ho1 := cmpQ_range (valC l r) (valC l q)
      have ho2 := cmpQ_range r q
      have hor : steepC l = 0 ∨ cmpQ (valC l r) (valC l q) = steepC l * cmpQ r q := by
        by_cases h : steepC l = 0
        · exact .inl h
        · exact .inr (steep_ord hc h r q)
      by_cases ht : Cv (turnP l)
      · have hst0 : steepC l ≠ 0 := ((turn_cv hc).1 ht).1
        obtain ⟨h0, h1⟩ := lvlQ_iff.1 hl
        obtain ⟨k, hk⟩ := hc.seg h0 h1
        have I1 := Lib.hid (fun n c w (h : Cu w a n c l) => ok_Inverse w h hc ht)
        have A3 := Lib.hid (fun b n c w (hg : Gr w0 w) (h : Cu w b n c (turnP l)) => ok_At htab hmx herr w hg h ht (hc.lvlV hl) hsy (by omega))
        rw [turn_back hc hst0 hk] at A3
        have S2 := Lib.hid (fun b n c w (h : Cu w b n c (turnP l)) => ok_Slope w h ht)
        rw [turn_steep hc hst0] at S2
        have I2 := Lib.hid (fun b n c w (h : Cu w b n c (turnP l)) => ok_Inverse w h ht (by rw [turn_turn hc hst0]; exact hc))
        rw [turn_turn hc hst0] at I2
        have hbeq := cw_beq (RT r)
        generalize turnP l = tl at *
        generalize steepC l = S at *
        generalize cmpQ (valC l r) (valC l q) = P at *
        generalize cmpQ r q = Q at *
        generalize RT (valC l r) = Y at *
        generalize RT (valC l q) = Y' at *
        generalize l.length = n at *
        generalize RT r = R at *
        generalize RT q = R' at *
        clear htab hmx herr hp hJ hs hs' hr hr' hsh hsh' hl hl' hc hsy hsz ht hk h0 h1
        intro w hg
        have HG0 := Lib.hid hg
        have CU_0 := Lib.hid (CU.out.gr hg)
        clear hg CU
        go_enter Tryz.func7, Tryz.ntmps7
        go_wp2_with fail
        refine (RI.out _ HG0.out).mono ?_; rintro e w1 ⟨rfl, hg⟩
        have HG1 := Lib.hid (Gr.trans HG0.out hg)
        have CU_1 := Lib.hid (CU_0.out.gr hg)
        clear hg HG0 CU_0
        go_wp2_with fail
        refine (RJ.out _ HG1.out).mono ?_; rintro e w2 ⟨rfl, hg⟩
        have HG2 := Lib.hid (Gr.trans HG1.out hg)
        have CU_2 := Lib.hid (CU_1.out.gr hg)
        clear hg HG1 CU_1
        go_wp2_with fail
        refine (A1.out _ _ _ HG2.out CU_2.out).mono ?_; rintro e w3 ⟨rfl, hg⟩
        have HG3 := Lib.hid (Gr.trans HG2.out hg)
        have CU_3 := Lib.hid (CU_2.out.gr hg)
        clear hg HG2 CU_2
        go_wp2_with fail
        refine (A2.out _ _ _ HG3.out CU_3.out).mono ?_; rintro e w4 ⟨rfl, hg⟩
        have HG4 := Lib.hid (Gr.trans HG3.out hg)
        have CU_4 := Lib.hid (CU_3.out.gr hg)
        clear hg HG3 CU_3
        go_wp2_with fail
        refine (S1.out _ _ _ CU_4.out).mono ?_; rintro e w5 ⟨rfl, hg⟩
        have HG5 := Lib.hid (Gr.trans HG4.out hg)
        have CU_5 := Lib.hid (CU_4.out.gr hg)
        clear hg HG4 CU_4
        go_wp2_with fail
        refine (K1.out _ HG5.out).mono ?_; rintro e w6 ⟨rfl, hg⟩
        have HG6 := Lib.hid (Gr.trans HG5.out hg)
        have CU_6 := Lib.hid (CU_5.out.gr hg)
        clear hg HG5 CU_5
        go_wp2_with fail
        refine (K2.out _ HG6.out).mono ?_; rintro e w7 ⟨rfl, hg⟩
        have HG7 := Lib.hid (Gr.trans HG6.out hg)
        have CU_7 := Lib.hid (CU_6.out.gr hg)
        clear hg HG6 CU_6
        go_wp2_with fail
        refine (O1.out _ HG7.out).mono ?_; rintro e w8 ⟨rfl, hg⟩
        have HG8 := Lib.hid (Gr.trans HG7.out hg)
        have CU_8 := Lib.hid (CU_7.out.gr hg)
        clear hg HG7 CU_7
        go_wp2_with fail
        refine (O2.out _ HG8.out).mono ?_; rintro e w9 ⟨rfl, hg⟩
        have HG9 := Lib.hid (Gr.trans HG8.out hg)
        have CU_9 := Lib.hid (CU_8.out.gr hg)
        clear hg HG8 CU_8
        rcases hst with rfl | rfl | rfl <;> rcases ho2 with rfl | rfl | rfl <;> rcases ho1 with rfl | rfl | rfl <;>
          first
          | (exfalso; omega)
          | (clear hor hst0
             go_wp2_with fail
             refine (I1.out _ _ _ CU_9.out).mono ?_; rintro e w10 ⟨b1, c1, rfl, hf, hg⟩
             have HG10 := Lib.hid (Gr.trans HG9.out hg)
             have CU_10 := Lib.hid (CU_9.out.gr hg)
             have CI_10 := Lib.hid hf; clear hf
             clear hg HG9 CU_9
             go_wp2_with fail
             refine (A3.out _ _ _ _ HG10.out CI_10.out).mono ?_; rintro e w11 ⟨rfl, hg⟩
             have HG11 := Lib.hid (Gr.trans HG10.out hg)
             have CU_11 := Lib.hid (CU_10.out.gr hg)
             have CI_11 := Lib.hid (CI_10.out.gr hg)
             clear hg HG10 CU_10 CI_10
             go_wp2_with fail
             refine (S2.out _ _ _ _ CI_11.out).mono ?_; rintro e w12 ⟨rfl, hg⟩
             have HG12 := Lib.hid (Gr.trans HG11.out hg)
             have CU_12 := Lib.hid (CU_11.out.gr hg)
             have CI_12 := Lib.hid (CI_11.out.gr hg)
             clear hg HG11 CU_11 CI_11
             go_wp2_with fail
             refine (I2.out _ _ _ _ CI_12.out).mono ?_; rintro e w13 ⟨b2, c2, rfl, hf, hg⟩
             have HG13 := Lib.hid (Gr.trans HG12.out hg)
             have CU_13 := Lib.hid (CU_12.out.gr hg)
             have CB_13 := Lib.hid hf; clear hf
             clear hg HG12 CU_12 CI_12
             go_wp2_with fail
             refine (SA.out _ _ _ _ CB_13.out CU_13.out).mono ?_; rintro e w14 ⟨rfl, hg⟩
             have HG14 := Lib.hid (Gr.trans HG13.out hg)
             clear hg HG13 CU_13 CB_13
             go_wp2_with fail
             refine (AW.out _ HG14.out).mono ?_; rintro e w15 ⟨rfl, hg⟩
             have HG15 := Lib.hid (Gr.trans HG14.out hg)
             clear hg HG14 
             go_wp2
             go_ret
             exact ⟨rfl, HG15.out⟩)
      · have I1 := Lib.hid (fun n c w (h : Cu w a n c l) => no_Inverse w h hc ht)
        generalize steepC l = S at *
        generalize cmpQ (valC l r) (valC l q) = P at *
        generalize cmpQ r q = Q at *
        generalize RT (valC l r) = Y at *
        generalize RT (valC l q) = Y' at *
        generalize l.length = n at *
        generalize RT r = R at *
        generalize RT q = R' at *
        clear htab hmx herr hp hJ hs hs' hr hr' hsh hsh' hl hl' hc hsy hsz ht SA
        intro w hg
        have HG0 := Lib.hid hg
        have CU_0 := Lib.hid (CU.out.gr hg)
        clear hg CU
        go_enter Tryz.func7, Tryz.ntmps7
        go_wp2_with fail
        refine (RI.out _ HG0.out).mono ?_; rintro e w1 ⟨rfl, hg⟩
        have HG1 := Lib.hid (Gr.trans HG0.out hg)
        have CU_1 := Lib.hid (CU_0.out.gr hg)
        clear hg HG0 CU_0
        go_wp2_with fail
        refine (RJ.out _ HG1.out).mono ?_; rintro e w2 ⟨rfl, hg⟩
        have HG2 := Lib.hid (Gr.trans HG1.out hg)
        have CU_2 := Lib.hid (CU_1.out.gr hg)
        clear hg HG1 CU_1
        go_wp2_with fail
        refine (A1.out _ _ _ HG2.out CU_2.out).mono ?_; rintro e w3 ⟨rfl, hg⟩
        have HG3 := Lib.hid (Gr.trans HG2.out hg)
        have CU_3 := Lib.hid (CU_2.out.gr hg)
        clear hg HG2 CU_2
        go_wp2_with fail
        refine (A2.out _ _ _ HG3.out CU_3.out).mono ?_; rintro e w4 ⟨rfl, hg⟩
        have HG4 := Lib.hid (Gr.trans HG3.out hg)
        have CU_4 := Lib.hid (CU_3.out.gr hg)
        clear hg HG3 CU_3
        go_wp2_with fail
        refine (S1.out _ _ _ CU_4.out).mono ?_; rintro e w5 ⟨rfl, hg⟩
        have HG5 := Lib.hid (Gr.trans HG4.out hg)
        have CU_5 := Lib.hid (CU_4.out.gr hg)
        clear hg HG4 CU_4
        go_wp2_with fail
        refine (K1.out _ HG5.out).mono ?_; rintro e w6 ⟨rfl, hg⟩
        have HG6 := Lib.hid (Gr.trans HG5.out hg)
        have CU_6 := Lib.hid (CU_5.out.gr hg)
        clear hg HG5 CU_5
        go_wp2_with fail
        refine (K2.out _ HG6.out).mono ?_; rintro e w7 ⟨rfl, hg⟩
        have HG7 := Lib.hid (Gr.trans HG6.out hg)
        have CU_7 := Lib.hid (CU_6.out.gr hg)
        clear hg HG6 CU_6
        go_wp2_with fail
        refine (O1.out _ HG7.out).mono ?_; rintro e w8 ⟨rfl, hg⟩
        have HG8 := Lib.hid (Gr.trans HG7.out hg)
        have CU_8 := Lib.hid (CU_7.out.gr hg)
        clear hg HG7 CU_7
        go_wp2_with fail
        refine (O2.out _ HG8.out).mono ?_; rintro e w9 ⟨rfl, hg⟩
        have HG9 := Lib.hid (Gr.trans HG8.out hg)
        have CU_9 := Lib.hid (CU_8.out.gr hg)
        clear hg HG8 CU_8
        rcases hst with rfl | rfl | rfl <;> rcases ho2 with rfl | rfl | rfl <;> rcases ho1 with rfl | rfl | rfl <;>
          first
          | (exfalso; omega)
          | (clear hor
             go_wp2_with fail
             refine (I1.out _ _ _ CU_9.out).mono ?_; rintro e w10 ⟨v1, rfl, hg⟩
             have HG10 := Lib.hid (Gr.trans HG9.out hg)
             clear hg HG9 CU_9
             go_wp2_with fail
             refine (AW.out _ HG10.out).mono ?_; rintro e w11 ⟨rfl, hg⟩
             have HG11 := Lib.hid (Gr.trans HG10.out hg)
             clear hg HG10 
             go_wp2
             go_ret
             exact ⟨rfl, HG11.out⟩)
    · rw [Bool.not_eq_true] at hr'
      rw [hr'] at RJ
      clear hr hr'
      clear htab hmx herr hp hJ
      generalize l.length = n at *
      intro w hg
      have HG0 := Lib.hid hg
      clear hg
      go_enter Tryz.func7, Tryz.ntmps7
      go_wp2_with fail
      refine (RI.out _ HG0.out).mono ?_; rintro e w1 ⟨rfl, hg⟩
      have HG1 := Lib.hid (Gr.trans HG0.out hg)
      clear hg HG0 
      go_wp2_with fail
      refine (RJ.out _ HG1.out).mono ?_; rintro e w2 ⟨rfl, hg⟩
      have HG2 := Lib.hid (Gr.trans HG1.out hg)
      clear hg HG1 
      go_wp2_with fail
      refine (AW.out _ HG2.out).mono ?_; rintro e w3 ⟨rfl, hg⟩
      have HG3 := Lib.hid (Gr.trans HG2.out hg)
      clear hg HG2 
      go_wp2
      go_ret
      exact ⟨rfl, HG3.out⟩
  · rw [Bool.not_eq_true] at hr
    rw [hr] at RI
    clear hr RJ
    clear htab hmx herr hp hJ
    generalize l.length = n at *
    intro w hg
    have HG0 := Lib.hid hg
    clear hg
    go_enter Tryz.func7, Tryz.ntmps7
    go_wp2_with fail
    refine (RI.out _ HG0.out).mono ?_; rintro e w1 ⟨rfl, hg⟩
    have HG1 := Lib.hid (Gr.trans HG0.out hg)
    clear hg HG0 
    go_wp2_with fail
    refine (AW.out _ HG1.out).mono ?_; rintro e w2 ⟨rfl, hg⟩
    have HG2 := Lib.hid (Gr.trans HG1.out hg)
    clear hg HG1 
    go_wp2
    go_ret
    exact ⟨rfl, HG2.out⟩
end
end Go.Proofs.YtlbnibicehpobaaGreatDoor
