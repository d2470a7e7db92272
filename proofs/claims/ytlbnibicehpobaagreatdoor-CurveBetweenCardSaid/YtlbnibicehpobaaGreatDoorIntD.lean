/- IntD: Int02j, Int02k, Int02l, Range2, joined. -/
import Derived.Test.YtlbnibicehpobaaGreatDoorDiv64c
import Derived.Shelf.Spec.BitsCarry
import Derived.IntWalk
set_option linter.unusedVariables false
set_option linter.unusedSimpArgs false

/- takeOut: how often words are in words that are one longer. -/
namespace Go.Proofs.YtlbnibicehpobaaGreatDoor
open Go.RowKit Go.Shelf
open Z

theorem r_Add64 (x y s c : Nat) (hs : (x + y + 0) % 18446744073709551616 = s) (hc : (x + y + 0) / 18446744073709551616 = c) (hx : x < 18446744073709551616) (hy : y < 18446744073709551616) (w : World) :
    (callFunc 199 #[.int .u64 x, .int .u64 y, .int .u64 0]).run Tryz.prog w = .ok (.value (.tuple #[.int .u64 s, .int .u64 c])) w := by
  rw [run_callFunc_extern Tryz.func199 (by kernel_rfl) (by kernel_rfl) (by kernel_rfl) (e := add64Entry) (by kernel_rfl), run_add64 x y 0 (by omega) (by omega) (by omega) (by omega)]
  simp only [Result.andThen]
  rw [← hs, ← hc]
  congr 5 <;> omega
theorem m_Mul64 (x hi lo : Nat) (h1 : x * 1000000000000000000 / 18446744073709551616 = hi) (h2 : x * 1000000000000000000 % 18446744073709551616 = lo) (hx : x < 1000000000) (w : World) :
    Calls Tryz.prog 198 #[.int .u64 x, .int .u64 1000000000000000000] w (fun e w' => e = .returned (.tuple #[.int .u64 hi, .int .u64 lo]) ∧ w = w') := by
  have h := Tryz.bits_Mul64 x 1000000000000000000 (by omega) (by omega) w
  rw [h1, h2] at h
  refine Calls.mono h ?_
  rintro e w' ⟨rfl, rfl⟩
  exact ⟨rfl, rfl⟩
def TOutRet (e0 : TypeId) (g L cap : Nat) (A s Z ys : List Nat) (w w' : World) (e : Ending) : Prop :=
  ∃ q : Nat, e = .returned (.int .u32 q) ∧ q < 1000000000 ∧ ∃ s', s'.length = s.length ∧ OwnAt e0 .u32 g L cap w' (A ++ s' ++ Z) ∧ Ch g w w' ∧ small 1000000000 s' ∧ wv 1000000000 s = q * wv 1000000000 ys + wv 1000000000 s' ∧ wv 1000000000 s' < wv 1000000000 ys

theorem OwnAt.mid {e : TypeId} {g L C off cap : Nat} {w : World} {A s Z : List Nat} (h : OwnAt e .u32 g L C w (A ++ s ++ Z)) (hA : A.length = off) (hc : s.length ≤ cap ∧ cap ≤ maxLen) : Rd .u32 w (.slice (some ⟨g, off, none⟩) s.length cap) s := by
  refine ⟨some ⟨g, off, none⟩, cap, rfl, hc, .inr ⟨g, off, rfl, h.lt, fun i hi => ?_⟩⟩
  have hL := h.1
  simp only [List.length_append] at hL
  have := (h.cell (off + i) (by omega)).1
  rw [getD_mid hA hi] at this
  rw [this]; simp [hi]
theorem le_of_mul {q B V S : Nat} (h : q * V ≤ S) (h2 : S < B * V) : q < B := by
  rcases Nat.lt_or_ge q B with h3 | h3
  · exact h3
  · have : B * V ≤ q * V := Nat.mul_le_mul_right _ h3
    omega
set_option maxHeartbeats 4000000 in
set_option maxRecDepth 100000 in
theorem i_takeOut (g off cap L C : Nat) (A s Z ys : List Nat) (av : Option Addr) (cv : Nat) (w0 w : World)
    (hO : OwnAt 173 .u32 g L C w (A ++ s ++ Z)) (hA : A.length = off) (hs : small 1000000000 s) (hr : Rd .u32 w0 (.slice av ys.length cv) ys) (hg : Gr w0 w) (hb : w0.heap.size ≤ g) (hy : small 1000000000 ys)
    (hl : s.length = ys.length + 1) (hn2 : 2 ≤ ys.length) (hls : s.length ≤ 3000000) (htop : ys.getD (ys.length - 1) 0 ≠ 0) (hlt : wv 1000000000 s < 1000000000 * wv 1000000000 ys) (hny : Nm ys) (hcap : s.length ≤ cap ∧ cap ≤ maxLen) :
    Calls Tryz.prog 183 #[.slice (some ⟨g, off, none⟩) s.length cap, .slice av ys.length cv] w (fun e w' => TOutRet 173 g L C A s Z ys w w' e) := by
  have HA := Lib.hid hA; clear hA
  have HS := Lib.hid hs; clear hs
  have HR := Lib.hid hr; clear hr
  have HY := Lib.hid hy; clear hy
  have HL : Hid (L = off + s.length + Z.length) := by
    show _ = _; have := hO.1; have := HA.out; simp only [List.length_append] at *; omega
  have HB := Lib.hid hb; clear hb
  have HG := Lib.hid hg; clear hg
  have HTOP := Lib.hid htop; clear htop
  have HLT := Lib.hid hlt; clear hlt
  have HNY := Lib.hid hny; clear hny
  have HCAP := Lib.hid hcap; clear hcap
  obtain ⟨n, HN⟩ : ∃ n, Hid (n = ys.length) := ⟨_, rfl⟩
  obtain ⟨N1, HN1⟩ : ∃ N1, Hid (N1 = s.length) := ⟨_, rfl⟩
  obtain ⟨n1, HE1⟩ : ∃ n1, Hid (n1 = n - 1) := ⟨_, rfl⟩
  obtain ⟨n2, HE2⟩ : ∃ n2, Hid (n2 = n - 2) := ⟨_, rfl⟩
  have hnn : 2 ≤ n ∧ N1 = n + 1 ∧ N1 ≤ 3000000 ∧ n1 + 1 = n ∧ n2 + 2 = n := by
    have := HN.out; have := HN1.out; have := HE1.out; have := HE2.out; omega
  obtain ⟨k1, k2, k3, k4, k5⟩ := hnn
  have HK := Lib.hid (And.intro k2 (And.intro k4 k5))
  have k2' : n < N1 := by omega
  have b1 : (n1 : Int) < N1 := by omega
  have b2 : (n2 : Int) < N1 := by omega
  have b3 : (n1 : Int) < n := by omega
  have b4 : (n2 : Int) < n := by omega
  have E1 : (n : Int) - 1 = (n1 : Int) := by omega
  have E2 : (n : Int) - 2 = (n2 : Int) := by omega
  -- the words that are read
  obtain ⟨x2, HX2⟩ : ∃ x, Hid (x = s.getD n 0) := ⟨_, rfl⟩
  obtain ⟨x1, HX1⟩ : ∃ x, Hid (x = s.getD n1 0) := ⟨_, rfl⟩
  obtain ⟨x0, HX0⟩ : ∃ x, Hid (x = s.getD n2 0) := ⟨_, rfl⟩
  obtain ⟨y1, HY1⟩ : ∃ x, Hid (x = ys.getD n1 0) := ⟨_, rfl⟩
  obtain ⟨y0, HY0⟩ : ∃ x, Hid (x = ys.getD n2 0) := ⟨_, rfl⟩
  have hx2 : x2 < 1000000000 := by rw [HX2.out]; exact small_getD (by omega) HS.out _
  have hx1 : x1 < 1000000000 := by rw [HX1.out]; exact small_getD (by omega) HS.out _
  have hx0 : x0 < 1000000000 := by rw [HX0.out]; exact small_getD (by omega) HS.out _
  have hy1 : y1 < 1000000000 := by rw [HY1.out]; exact small_getD (by omega) HY.out _
  have hy0 : y0 < 1000000000 := by rw [HY0.out]; exact small_getD (by omega) HY.out _
  have hy1p : 1 ≤ y1 := by
    have := HTOP.out; rw [← HN.out, ← HE1.out, ← HY1.out] at this; omega
  have cc := fun i (hi : i < N1) => hO.cell (off + i) (by rw [HL.out, ← HN1.out]; omega)
  have c2 := cc n (by omega)
  have c1 := cc n1 (by omega)
  have c0 := cc n2 (by omega)
  rw [getD_mid HA.out (by rw [← HN1.out]; omega)] at c2 c1 c0
  rw [← HX2.out] at c2
  rw [← HX1.out] at c1
  rw [← HX0.out] at c0
  obtain ⟨c2, -⟩ := c2
  obtain ⟨c1, -⟩ := c1
  obtain ⟨c0, -⟩ := c0
  clear cc
  have HO := Lib.hid hO; clear hO
  obtain ⟨gb, ob, rfl, d1⟩ := HR.out.at HG.out n1 (by rw [← HN.out]; omega)
  obtain ⟨gb', ob', hh, d0⟩ := HR.out.at HG.out n2 (by rw [← HN.out]; omega)
  cases hh
  rw [← HY1.out] at d1
  rw [← HY0.out] at d0
  rw [← HN1.out]
  rw [← HN.out] at HR ⊢
  clear hl hn2 hls k2 k4 k5
  -- the numbers
  obtain ⟨hi, lo, lo', c, m1, m2, m3, m4, m5, m6, m7, m8, m9, m10⟩ := halves (x2 := x2) (s := x1 * 1000000000 + x0) (by omega) hx2
  have HM := Lib.hid (m_Mul64 x2 hi lo m1 m2 hx2)
  obtain ⟨S, HSS⟩ : ∃ S, Hid (S = x1 * 1000000000 + x0) := ⟨_, rfl⟩
  obtain ⟨D, HD⟩ : ∃ D, Hid (D = y1 * 1000000000 + y0 + 1) := ⟨_, rfl⟩
  have hadd : ∀ w : World, (callFunc 199 #[.int .u64 lo, .int .u64 S, .int .u64 0]).run Tryz.prog w = .ok (.value (.tuple #[.int .u64 lo', .int .u64 c])) w := fun w => r_Add64 lo S lo' c (by rw [HSS.out]; exact m3) (by rw [HSS.out]; exact m4) m8 (by rw [HSS.out]; omega) w
  have HM5 : Hid ((hi + c) * 18446744073709551616 + lo' = x2 * 1000000000000000000 + S) := by show _ = _; rw [HSS.out]; exact m5
  clear m1 m2 m3 m4 m5
  go_enter Tryz.func183, Tryz.ntmps183
  go_wp2_with fail
  refine (HM.out _).mono ?_
  rintro e w' ⟨rfl, rfl⟩
  go_wp2
  have W1 : IntKind.i64.wrap ((n : Int) - 1) = (n1 : Int) := by rw [E1]; exact IntWalk.i64_in _ (by omega)
  have W2 : IntKind.i64.wrap ((n : Int) - 2) = (n2 : Int) := by rw [E2]; exact IntWalk.i64_in _ (by omega)
  have W3 : IntKind.u64.wrap (x1 : Int) = (x1 : Int) := IntWalk.u64_in _ (by omega)
  have W4 : IntKind.u64.wrap (x0 : Int) = (x0 : Int) := IntWalk.u64_in _ (by omega)
  have W5 : IntKind.u64.wrap ((x1 : Int) * 1000000000) = (x1 : Int) * 1000000000 := IntWalk.u64_in _ (by omega)
  have W6 : IntKind.u64.wrap ((x1 : Int) * 1000000000 + (x0 : Int)) = (S : Int) := by rw [IntWalk.u64_in _ (by omega), HSS.out]; rfl
  go_quiet (fail)
  clear W1 W2 W3 W4 W5 W6 hadd HM
  have hgq : Gr w (w.drewN nq) := below_drewN (Gr.refl _) _
  have HOq : Hid (OwnAt 173 .u32 g L C (w.drewN nq) (A ++ s ++ Z)) := HO.out.grow hgq
  have HGq := Lib.hid (Gr.trans HG.out hgq)
  have d1q : (w.drewN nq).cell? ⟨gb, ob + n1, none⟩ = some (.int .u32 (y1 : Nat)) := d1
  have d0q : (w.drewN nq).cell? ⟨gb, ob + n2, none⟩ = some (.int .u32 (y0 : Nat)) := d0
  have HCq := Lib.hid (Gr.ch hgq g)
  clear d1 d0 c2 c1 c0 hgq HO HG
  generalize w.drewN nq = w2 at HOq HGq d1q d0q HCq ⊢
  have HH : Hid (hi + c < D) := by show _ < _; rw [HD.out]; omega
  have hDb : D < 18446744073709551616 := by rw [HD.out]; omega
  obtain ⟨H, HHH⟩ : ∃ H, Hid (H = hi + c) := ⟨_, rfl⟩
  have HV := Lib.hid (fun w => i_Div64 H lo' D w (by rw [HHH.out]; exact HH.out) m9 hDb)
  obtain ⟨T, HT⟩ : ∃ T, Hid (T = x2 * 1000000000000000000 + S) := ⟨_, rfl⟩
  rw [HHH.out, HM5.out, ← HT.out, ← HHH.out] at HV
  obtain ⟨q, HQ⟩ : ∃ q, Hid (q = T / D) := ⟨_, rfl⟩
  obtain ⟨rr, HRR⟩ : ∃ q, Hid (q = T % D) := ⟨_, rfl⟩
  rw [← HQ.out, ← HRR.out] at HV
  have W1 : IntKind.i64.wrap ((n : Int) - 1) = (n1 : Int) := by rw [E1]; exact IntWalk.i64_in _ (by omega)
  have W2 : IntKind.i64.wrap ((n : Int) - 2) = (n2 : Int) := by rw [E2]; exact IntWalk.i64_in _ (by omega)
  have W3 : IntKind.u64.wrap (y1 : Int) = (y1 : Int) := IntWalk.u64_in _ (by omega)
  have W4 : IntKind.u64.wrap (y0 : Int) = (y0 : Int) := IntWalk.u64_in _ (by omega)
  have W5 : IntKind.u64.wrap ((y1 : Int) * 1000000000) = (y1 : Int) * 1000000000 := IntWalk.u64_in _ (by omega)
  have W6 : IntKind.u64.wrap ((y1 : Int) * 1000000000 + (y0 : Int)) = (y1 : Int) * 1000000000 + (y0 : Int) := IntWalk.u64_in _ (by omega)
  have W7 : IntKind.u64.wrap ((y1 : Int) * 1000000000 + (y0 : Int) + 1) = (D : Int) := by rw [IntWalk.u64_in _ (by omega), HD.out]; rfl
  have W8 : IntKind.u64.wrap ((hi : Int) + (c : Int)) = (H : Int) := by rw [IntWalk.u64_in _ (by omega), HHH.out]; rfl
  go_wp2
  have W1' : IntKind.i64.wrap (n1 : Int) = (n1 : Int) := IntWalk.i64_in _ (by omega)
  have W2' : IntKind.i64.wrap (n2 : Int) = (n2 : Int) := IntWalk.i64_in _ (by omega)
  clear E1 E2
  go_quiet ((go_at_call 200; exact Calls.quiet_of (HV.out _)))
  have hgq : Gr w2 (w2.drewN nq) := below_drewN (Gr.refl _) _
  have HOr : Hid (OwnAt 173 .u32 g L C (w2.drewN nq) (A ++ s ++ Z)) := HOq.out.grow hgq
  have HGr := Lib.hid (Gr.trans HGq.out hgq)
  have HCr := Lib.hid (HCq.out.trans (Gr.ch hgq g))
  clear hgq HOq HGq HCq d1q d0q W1 W2 W3 W4 W5 W6 W7 W8 W1' W2' HV
  generalize w2.drewN nq = w3 at HOr HGr HCr ⊢
  have HGL : Hid (q * wv 1000000000 ys ≤ wv 1000000000 s) := by
    have h := guess_le (n := n) (xs := s) (ys := ys) (by rw [← HN1.out]; exact HK.out.1) HN.out.symm k1 HY.out T D (by rw [HT.out, HSS.out, HX2.out, HX1.out, HX0.out, HE1.out, HE2.out]) (by rw [HD.out, HY1.out, HY0.out, HE1.out, HE2.out])
    rw [← HQ.out] at h; exact h
  have hqB := le_of_mul HGL.out HLT.out
  have HDEC : Hid (∀ (s' : List Nat) (f : Nat) (w : World), OwnAt 173 .u32 g L C w (A ++ s' ++ Z) → s'.length = N1 → small 1000000000 s' → Gr w0 w → f ≤ 1000000000 → f * wv 1000000000 ys ≤ wv 1000000000 s' →
      Calls Tryz.prog 172 #[.slice (some ⟨g, off, none⟩) N1 cap, .slice (some ⟨gb, ob, none⟩) n cv, .int .u64 f] w (fun e w' => DecRet 173 g L C A s' Z ys f w w' e)) := by
    intro s' f w h1 h2 h3 h4 h5 h6
    have hr := HR.out
    rw [HN.out] at hr
    have := i_decrease g off cap L C A s' Z ys (some ⟨gb, ob, none⟩) cv f w0 w h1 HA.out h3 hr h4 HB.out HY.out (by rw [h2, HK.out.1, HN.out]; omega) (by rw [h2]; exact k3) h5 h6
    rwa [h2, ← HN.out] at this
  go_wp2_with fail
  refine (HDEC.out s q w3 HOr.out HN1.out.symm HS.out HGr.out (by omega) HGL.out).mono ?_
  rintro e w4 ⟨rfl, s4, hs4, ho4, hc4, hsm4, hv4⟩
  have HI0 : Hid (s4.length = N1 ∧ OwnAt 173 .u32 g L C w4 (A ++ s4 ++ Z) ∧ Ch g w w4 ∧ small 1000000000 s4 ∧ wv 1000000000 s = q * wv 1000000000 ys + wv 1000000000 s4 ∧ Gr w0 w4) := ⟨hs4.trans HN1.out.symm, ho4, HCr.out.trans hc4, hsm4, by omega, hc4.gr HGr.out HB.out⟩
  clear hs4 ho4 hc4 hsm4 hv4 HOr HGr HCr
  clear HQ HT HRR HGL HHH HH HM5 HD hDb
  go_wp2
  go_loopw [9] (fun t wr => ∃ (q : Nat) (s4 : List Nat), t = .int .u64 q ∧ q < 1000000000 ∧ Hid (s4.length = N1 ∧ OwnAt 173 .u32 g L C wr (A ++ s4 ++ Z) ∧ Ch g w wr ∧ small 1000000000 s4 ∧ wv 1000000000 s = q * wv 1000000000 ys + wv 1000000000 s4 ∧ Gr w0 wr)) (fun t _ => 1000000000 - (intOf t).toNat)
  case atStart => exact ⟨q, s4, rfl, hqB, HI0.out⟩
  case round =>
    clear HI0 hqB
    obtain ⟨q, s4, rfl, hqB, HI⟩ := hrel
    have HTR := Lib.hid (i_trim (some ⟨g, off, none⟩) N1 cap s4 wr (by have := HI.out.2.1.mid (cap := cap) HA.out (by rw [HI.out.1, HN1.out]; exact HCAP.out); rwa [HI.out.1] at this) HI.out.2.2.2.1 (by rw [HI.out.1]; exact k3))
    go_wp2_with fail
    refine HTR.out.mono ?_
    rintro e w5 ⟨v5, rfl, hr5, hg5⟩
    obtain ⟨a5, n5, c5, rfl, hr5⟩ := hr5.shape
    have HCP := Lib.hid (i_compare a5 (some ⟨gb, ob, none⟩) n5 n c5 cv (trimL s4) ys w5 hr5 (HR.out.gr (Gr.trans HI.out.2.2.2.2.2 hg5)) (Nm.trim HI.out.2.2.2.1) HNY.out (Nat.le_trans (trimL_sub HI.out.2.2.2.1).2 (by rw [HI.out.1]; exact k3)) (by rw [← HN.out]; omega))
    rw [wv_trimL] at HCP
    have HI5 : Hid (s4.length = N1 ∧ OwnAt 173 .u32 g L C w5 (A ++ s4 ++ Z) ∧ Ch g w w5 ∧ small 1000000000 s4 ∧ wv 1000000000 s = q * wv 1000000000 ys + wv 1000000000 s4 ∧ Gr w0 w5) := by
      obtain ⟨i1, i2, i3, i4, i5, i6⟩ := HI.out
      exact ⟨i1, i2.grow hg5, i3.trans (Gr.ch hg5 g), i4, i5, Gr.trans i6 hg5⟩
    clear hr5 hg5 HTR HI
    go_wp2_with fail
    refine HCP.out.mono ?_
    rintro e w6 ⟨rfl, hg6⟩
    have HI6 : Hid (s4.length = N1 ∧ OwnAt 173 .u32 g L C w6 (A ++ s4 ++ Z) ∧ Ch g w w6 ∧ small 1000000000 s4 ∧ wv 1000000000 s = q * wv 1000000000 ys + wv 1000000000 s4 ∧ Gr w0 w6) := by
      obtain ⟨i1, i2, i3, i4, i5, i6⟩ := HI5.out
      exact ⟨i1, i2.grow hg6, i3.trans (Gr.ch hg6 g), i4, i5, Gr.trans i6 hg6⟩
    clear hg6 HCP HI5
    by_cases hlt : wv 1000000000 s4 < wv 1000000000 ys
    · have HF := Lib.hid hlt
      rw [show cmpN (wv 1000000000 s4) (wv 1000000000 ys) = -1 from if_pos hlt]
      clear hlt
      go_wp2
      go_ret
      obtain ⟨i1, i2, i3, i4, i5, i6⟩ := HI6.out
      exact ⟨q, rfl, hqB, s4, i1.trans HN1.out, i2, i3, i4, i5, HF.out⟩
    · have HLE : Hid (1 * wv 1000000000 ys ≤ wv 1000000000 s4) := by show _ ≤ _; omega
      obtain ⟨z, hz, hz1⟩ : ∃ z : Int, cmpN (wv 1000000000 s4) (wv 1000000000 ys) = z ∧ 0 ≤ z := ⟨_, rfl, by unfold cmpN; rw [if_neg hlt]; split <;> omega⟩
      rw [hz]
      clear hz hlt
      have hq1 : q + 1 < 1000000000 := by
        refine le_of_mul (V := wv 1000000000 ys) ?_ HLT.out
        have := HI6.out.2.2.2.2.1
        have := HLE.out
        rw [Nat.add_mul]; omega
      go_wp2_with fail
      have HDC := HDEC.out s4 1 w6 HI6.out.2.1 HI6.out.1 HI6.out.2.2.2.1 HI6.out.2.2.2.2.2 (by omega) HLE.out
      refine (HDC).mono ?_
      rintro e w7 ⟨rfl, s7, hs7, ho7, hc7, hsm7, hv7⟩
      have HI7 : Hid (s7.length = N1 ∧ OwnAt 173 .u32 g L C w7 (A ++ s7 ++ Z) ∧ Ch g w w7 ∧ small 1000000000 s7 ∧ wv 1000000000 s = (q + 1) * wv 1000000000 ys + wv 1000000000 s7 ∧ Gr w0 w7) := by
        obtain ⟨i1, i2, i3, i4, i5, i6⟩ := HI6.out
        exact ⟨hs7.trans i1, ho7, i3.trans hc7, hsm7, by rw [Nat.add_mul]; omega, hc7.gr i6 HB.out⟩
      clear hs7 ho7 hc7 hsm7 hv7 HDC HI6
      go_wp2
      go_roundw
      case rel => exact ⟨q + 1, s7, by go_num, hq1, HI7.out⟩
      case measure => simp only [intOf]; omega
end Go.Proofs.YtlbnibicehpobaaGreatDoor

/- What the rounds of a long division say. Of no program. -/
namespace Go.Proofs.YtlbnibicehpobaaGreatDoor
open Go.RowKit Go.Shelf
open Z

abbrev B9 : Nat := 1000000000
theorem wv_take_drop (l : List Nat) (i : Nat) (h : i ≤ l.length) : wv 1000000000 l = wv 1000000000 (l.take i) + 1000000000 ^ i * wv 1000000000 (l.drop i) := by
  conv => lhs; rw [← List.take_append_drop i l]
  rw [wv_append, List.length_take, Nat.min_eq_left h]
theorem dv_start {xs v : List Nat} (hx : small 1000000000 xs) (hv : Nm v) (hm : 1 ≤ v.length) (hle : v.length ≤ xs.length) :
    wv 1000000000 ((xs ++ [0]).drop (xs.length - v.length + 1)) < wv 1000000000 v := by
  rw [List.drop_append_of_le_length (by omega), wv_append]
  simp only [wv, Nat.mul_zero, Nat.add_zero]
  have h1 := wv_lt (small_drop hx (xs.length - v.length + 1))
  rw [List.length_drop] at h1
  have h2 := hv.ge (by intro e; rw [e] at hm; simp at hm)
  rw [show xs.length - (xs.length - v.length + 1) = v.length - 1 by omega] at h1
  omega
/-- the words before, in and behind the window -/
theorem dv_window {R : List Nat} {i m V : Nat} (hR : small 1000000000 R) (hl : i + m + 1 ≤ R.length) (hV : V ≤ 1000000000 ^ m) (h : wv 1000000000 (R.drop (i + 1)) < V) :
    ∃ A s Z : List Nat, R = A ++ s ++ Z ∧ A.length = i ∧ s.length = m + 1 ∧ small 1000000000 s ∧ wv 1000000000 Z = 0 ∧ wv 1000000000 s < 1000000000 * V ∧ small 1000000000 A ∧ small 1000000000 Z := by
  have h0 : wv 1000000000 (R.drop (i + m + 1)) = 0 := by
    have h1 := wv_take_drop (R.drop (i + 1)) m (by rw [List.length_drop]; omega)
    rw [List.drop_drop, show i + 1 + m = i + m + 1 by omega] at h1
    rcases Nat.eq_zero_or_pos (wv 1000000000 (R.drop (i + m + 1))) with h2 | h2
    · exact h2
    · have : 1000000000 ^ m * 1 ≤ 1000000000 ^ m * wv 1000000000 (R.drop (i + m + 1)) := Nat.mul_le_mul_left _ h2
      omega
  have hs : wv 1000000000 ((R.drop i).take (m + 1)) = wv 1000000000 (R.drop i) := by
    have h1 := wv_take_drop (R.drop i) (m + 1) (by rw [List.length_drop]; omega)
    rw [List.drop_drop, show i + (m + 1) = i + m + 1 by omega, h0, Nat.mul_zero, Nat.add_zero] at h1
    exact h1.symm
  refine ⟨R.take i, (R.drop i).take (m + 1), R.drop (i + m + 1), ?_, by rw [List.length_take]; omega, by rw [List.length_take, List.length_drop]; omega, fun x hx => hR x (List.mem_of_mem_drop (List.mem_of_mem_take hx)), h0, ?_, fun x hx => hR x (List.mem_of_mem_take hx), fun x hx => hR x (List.mem_of_mem_drop hx)⟩
  · have := List.take_append_drop (m + 1) (R.drop i)
    rw [List.drop_drop, show i + (m + 1) = i + m + 1 by omega] at this
    rw [List.append_assoc, this, List.take_append_drop]
  · rw [hs, wv_dropB (l := R) (i := i) _ (by omega)]
    have : R[i]'(by omega) < 1000000000 := hR _ (List.getElem_mem _)
    omega
/-- what a round changes -/
theorem dv_step {A s s' Z o : List Nat} {i m q V : Nat} {N : Nat} (hA : A.length = i) (hs : s.length = m + 1) (hs' : s'.length = m + 1) (hZ : wv 1000000000 Z = 0) (hq : wv 1000000000 s = q * V + wv 1000000000 s') (hlt : wv 1000000000 s' < V)
    (ho : i < o.length) (h : N = wv 1000000000 (A ++ s ++ Z) + V * (1000000000 ^ (i + 1) * wv 1000000000 (o.drop (i + 1)))) :
    N = wv 1000000000 (A ++ s' ++ Z) + V * (1000000000 ^ i * wv 1000000000 ((o.set i q).drop i)) ∧ wv 1000000000 ((A ++ s' ++ Z).drop i) < V := by
  constructor
  · rw [wv_dropB (l := o.set i q) _ (by rw [List.length_set]; exact ho), List.getElem_set_self, List.drop_set_of_lt (by omega)]
    rw [h, List.append_assoc, List.append_assoc, wv_append, wv_append, wv_append, wv_append, hZ, hA, hq]
    simp only [Nat.mul_zero, Nat.add_zero, Nat.mul_add, Nat.pow_succ]
    have e1 : 1000000000 ^ i * (q * V) = V * (1000000000 ^ i * q) := by ac_rfl
    have e2 : V * (1000000000 ^ i * 1000000000 * wv 1000000000 (o.drop (i + 1))) = V * (1000000000 ^ i * (1000000000 * wv 1000000000 (o.drop (i + 1)))) := by ac_rfl
    omega
  · rw [List.append_assoc, List.drop_append_of_le_length (by omega), List.drop_of_length_le (by omega), List.nil_append, wv_append, hZ, Nat.mul_zero, Nat.add_zero]
    exact hlt
theorem dv_end {N V Q R : Nat} (h : N = R + V * Q) (hR : R < V) : N / V = Q ∧ N % V = R := by
  subst h
  constructor
  · rw [Nat.add_mul_div_left _ _ (by omega), Nat.div_eq_of_lt hR, Nat.zero_add]
  · rw [Nat.add_mul_mod_self_left, Nat.mod_eq_of_lt hR]
end Go.Proofs.YtlbnibicehpobaaGreatDoor

/- divide: what is less, and what has one word. -/
namespace Go.Proofs.YtlbnibicehpobaaGreatDoor
open Go.RowKit Go.Shelf
open Z
attribute [local go_sem] Oper.semAt_some

/-- a store into a cell that held no integer -/
theorem Rd.setOther {k : IntKind} {w : World} {v u : Value} {xs : List Nat} {p : Addr} {a : Option Addr} {n c : Nat} (h : Rd k w v xs) (hc : w.cell? p = some (.slice a n c)) : Rd k (w.setCell p u) v xs := by
  obtain ⟨a', c', rfl, h0, h1⟩ := h
  refine ⟨a', c', rfl, h0, ?_⟩
  rcases h1 with h1 | ⟨g, off, rfl, h2, h3⟩
  · exact .inl h1
  · refine .inr ⟨g, off, rfl, by simpa [World.setCell] using h2, fun i hi => ?_⟩
    rw [World.cell?_setCell_other _ _ _ _ ?_]
    · exact h3 i hi
    · intro e
      have := h3 i hi
      rw [← e, hc] at this
      cases this
theorem WD.setOther {w : World} {v u : Value} {m : Nat} {p : Addr} {a : Option Addr} {n c : Nat} (h : WD w v m) (hc : w.cell? p = some (.slice a n c)) : WD (w.setCell p u) v m := by
  obtain ⟨xs, h1, h2⟩ := h
  exact ⟨xs, h1.setOther hc, h2⟩
theorem WD.nil (w : World) : WD w (.slice none 0 0) 0 := ⟨[], Rd.nil _ _, ⟨by intro x hx; simp at hx, by simp⟩, rfl⟩

set_option maxHeartbeats 4000000 in
set_option maxRecDepth 100000 in
theorem i_divideA (aa ab : Option Addr) (ca cb : Nat) (xa xb : List Nat) (w : World) (hra : Rd .u32 w (.slice aa xa.length ca) xa) (hrb : Rd .u32 w (.slice ab xb.length cb) xb) (hna : Nm xa) (hnb : Nm xb) (hl1 : xa.length ≤ 1000000) (hl2 : xb.length ≤ 1000000) (hlt : wv 1000000000 xa < wv 1000000000 xb) :
    Calls Tryz.prog 158 #[.slice aa xa.length ca, .slice ab xb.length cb] w (fun e w' => DWRet (wv 1000000000 xa / wv 1000000000 xb) (wv 1000000000 xa % wv 1000000000 xb) w w' e) := by
  have HA := Lib.hid hra; clear hra
  have HB := Lib.hid hrb; clear hrb
  have HNA := Lib.hid hna; clear hna
  have HNB := Lib.hid hnb; clear hnb
  have HLT := Lib.hid hlt; clear hlt
  have HC := Lib.hid (fun w' (hg : Gr w w') => i_compare aa ab _ _ ca cb xa xb w' (HA.out.gr hg) (HB.out.gr hg) HNA.out HNB.out (by omega) (by omega))
  rw [show cmpN (wv 1000000000 xa) (wv 1000000000 xb) = -1 from if_pos HLT.out] at HC
  rw [Nat.div_eq_of_lt HLT.out, Nat.mod_eq_of_lt HLT.out]
  refine (callsIn_wide (n := 3)).1 ?_
  refine callsIn_of_wp_marks Tryz.func158 rfl trivial ?_ rfl
  simp only [Tryz.ntmps158, List.size_toArray, List.length_cons, List.length_nil, Nat.reduceAdd, Nat.reduceSub, Array.replicate_succ, Array.replicate_zero, List.push_toArray, List.append_toArray, List.nil_append, List.cons_append]
  have hg2 : Gr w ((w.alloc (.cells #[.slice ab xb.length cb] 136)).alloc (.cells #[.slice none 0 0] 136)) := ((Gr.refl w).alloc _).alloc _
  gi_wp2_with (refine ⟨trivial, ?_⟩; gi_at_call 151; refine (callsIn_wide.2 (HC.out _ hg2)).mono ?_; rintro e w3 ⟨rfl, hg3⟩
               have HG3 := Lib.hid (Gr.trans hg2 hg3)
               have c1 : w3.cell? ⟨w.heap.size + 1, 0, none⟩ = some (.slice none 0 0) := (Below.cell hg3 (p := ⟨w.heap.size + 1, 0, none⟩) (by simp)).trans (by rw [World.cell?_alloc_at _ _ _ _ (by simp)]; rfl)
               have f1 : w3.frozen? ⟨w.heap.size + 1, 0, none⟩ = false := (Below.frozen hg3 (p := ⟨w.heap.size + 1, 0, none⟩) (by simp)).trans (World.frozen?_alloc_at _ _ _ _ (by simp))
               clear hg2 hg3)
  have hc5 : (w3.setCell ⟨w.heap.size + 1, 0, none⟩ (.slice none 0 0)).cell? ⟨w.heap.size + 1, 0, none⟩ = some (.slice none 0 0) := World.cell?_setCell_same' _ _ _ (by rw [c1]; rfl)
  have hG5 : Gr w (w3.setCell ⟨w.heap.size + 1, 0, none⟩ (.slice none 0 0)) := Below.setCell HG3.out (show w.heap.size ≤ w.heap.size + 1 by omega) _
  refine ⟨.tuple #[.slice none 0 0, .slice aa xa.length ca], ?_, .slice none 0 0, .slice aa xa.length ca, rfl, WD.nil _, ⟨_, HA.out.gr hG5, HNA.out, rfl⟩, hG5⟩
  simp [results, Tryz.results158, go_sem, hc5]

set_option maxHeartbeats 4000000 in
set_option maxRecDepth 100000 in
theorem i_divideB (aa : Option Addr) (ca cb gb ob y : Nat) (xa xb : List Nat) (w : World) (hra : Rd .u32 w (.slice aa xa.length ca) xa) (hrb : Rd .u32 w (.slice (some ⟨gb, ob, none⟩) 1 cb) xb) (hy : xb = [y]) (hna : Nm xa) (hnb : Nm xb) (hl1 : xa.length ≤ 1000000) (hlt : wv 1000000000 xb ≤ wv 1000000000 xa) :
    Calls Tryz.prog 158 #[.slice aa xa.length ca, .slice (some ⟨gb, ob, none⟩) 1 cb] w (fun e w' => DWRet (wv 1000000000 xa / wv 1000000000 xb) (wv 1000000000 xa % wv 1000000000 xb) w w' e) := by
  subst hy
  have HA := Lib.hid hra; clear hra
  have HB := Lib.hid hrb; clear hrb
  have HNA := Lib.hid hna; clear hna
  have HNB := Lib.hid hnb; clear hnb
  have hyb : y < 1000000000 := HNB.out.1 y (by simp)
  have hyp : 0 < y := by
    have := HNB.out.2
    rw [List.getLast?_singleton] at this
    rcases Nat.eq_zero_or_pos y with h | h
    · rw [h] at this; exact absurd rfl this
    · exact h
  have HC := Lib.hid (fun w' (hg : Gr w w') => i_compare aa (some ⟨gb, ob, none⟩) _ _ ca cb xa [y] w' (HA.out.gr hg) (HB.out.gr hg) HNA.out HNB.out (by omega) (by simp))
  obtain ⟨z, hz, hz1⟩ : ∃ z : Int, cmpN (wv 1000000000 xa) (wv 1000000000 [y]) = z ∧ 0 ≤ z := ⟨_, rfl, by unfold cmpN; rw [if_neg (by omega)]; split <;> omega⟩
  rw [hz] at HC
  clear hz hlt
  have HD := Lib.hid (fun w' (hg : Gr w w') => i_divideByWord0 aa ca xa y w' (HA.out.gr hg) HNA.out.1 hl1 hyp hyb)
  rw [show wv 1000000000 [y] = y by simp [wv]]
  refine (callsIn_wide (n := 3)).1 ?_
  refine callsIn_of_wp_marks Tryz.func158 rfl trivial ?_ rfl
  simp only [Tryz.ntmps158, List.size_toArray, List.length_cons, List.length_nil, Nat.reduceAdd, Nat.reduceSub, Array.replicate_succ, Array.replicate_zero, List.push_toArray, List.append_toArray, List.nil_append, List.cons_append]
  have hg2 : Gr w ((w.alloc (.cells #[.slice (some ⟨gb, ob, none⟩) 1 cb] 136)).alloc (.cells #[.slice none 0 0] 136)) := ((Gr.refl w).alloc _).alloc _
  gi_wp2_with (first
    | (refine ⟨trivial, ?_⟩; gi_at_call 151; refine (callsIn_wide.2 (HC.out _ hg2)).mono ?_; rintro e w3 ⟨rfl, hg3⟩
       have HG3 := Lib.hid (Gr.trans hg2 hg3)
       have c0 : w3.cell? ⟨w.heap.size, 0, none⟩ = some (.slice (some ⟨gb, ob, none⟩) 1 cb) := (Below.cell hg3 (p := ⟨w.heap.size, 0, none⟩) (by simp; omega)).trans (by rw [World.cell?_alloc_past _ _ _ (by simp), World.cell?_alloc_at _ _ _ _ (by simp)]; rfl)
       have c1 : w3.cell? ⟨w.heap.size + 1, 0, none⟩ = some (.slice none 0 0) := (Below.cell hg3 (p := ⟨w.heap.size + 1, 0, none⟩) (by simp)).trans (by rw [World.cell?_alloc_at _ _ _ _ (by simp)]; rfl)
       have f1 : w3.frozen? ⟨w.heap.size + 1, 0, none⟩ = false := (Below.frozen hg3 (p := ⟨w.heap.size + 1, 0, none⟩) (by simp)).trans (World.frozen?_alloc_at _ _ _ _ (by simp))
       have cy : w3.cell? ⟨gb, ob, none⟩ = some (.int .u32 (y : Nat)) := by
         obtain ⟨g, o, h, hc⟩ := HB.out.at HG3.out 0 (by simp)
         cases h; exact hc
       have hs3 : w.heap.size + 2 ≤ w3.heap.size := by have := hg3.size; simp at this; omega
       clear hg2 hg3)
    | (refine ⟨trivial, ?_⟩; gi_at_call 182; refine (callsIn_wide.2 (HD.out w3 HG3.out)).mono ?_
       rintro e w4 ⟨v, v', rfl, h4, h4', hg4⟩
       have H4 := Lib.hid h4
       have H4' := Lib.hid h4'
       obtain ⟨a5, c5, x5, rfl, h5⟩ := h4.form
       obtain ⟨a6, c6, x6, rfl, h6⟩ := h4'.form
       have HG4 := Lib.hid (Gr.trans HG3.out hg4)
       have d1 : w4.cell? ⟨w.heap.size + 1, 0, none⟩ = some (.slice none 0 0) := (Below.cell hg4 (p := ⟨w.heap.size + 1, 0, none⟩) (by show w.heap.size + 1 < _; omega)).trans c1
       have e1 : w4.frozen? ⟨w.heap.size + 1, 0, none⟩ = false := (Below.frozen hg4 (p := ⟨w.heap.size + 1, 0, none⟩) (by show w.heap.size + 1 < _; omega)).trans f1
       clear h4 h4' h5 h6 hg4 c1 f1))
  have hc5 : (w4.setCell ⟨w.heap.size + 1, 0, none⟩ (.slice a5 x5.length c5)).cell? ⟨w.heap.size + 1, 0, none⟩ = some (.slice a5 x5.length c5) := World.cell?_setCell_same' _ _ _ (by rw [d1]; rfl)
  have hG5 : Gr w (w4.setCell ⟨w.heap.size + 1, 0, none⟩ (.slice a5 x5.length c5)) := Below.setCell HG4.out (show w.heap.size ≤ w.heap.size + 1 by omega) _
  refine ⟨.tuple #[.slice a5 x5.length c5, .slice a6 x6.length c6], ?_, .slice a5 x5.length c5, .slice a6 x6.length c6, rfl, H4.out.setOther d1, H4'.out.setOther d1, hG5⟩
  simp [results, Tryz.results158, go_sem, hc5]
end Go.Proofs.YtlbnibicehpobaaGreatDoor

/- XRange, where the iterator reads what the rounds write. Of no program of its own. -/
namespace Go.Proofs.YtlbnibicehpobaaGreatDoor
open Go.RowKit Go.Shelf

/-- Rounds, where the k-th round needs C k: an iterator that asks for N rounds at most, the k-th of them at the k-th arguments; it reads nothing but the blocks of S, and writes nothing -/
def RoundsC (P : Program) (g : Nat) (lb : Array Value) (args : Nat → Array Value) (N : Nat) (S : Nat → Prop) (C : Nat → World → Prop) (w0 : World) : Prop :=
  ∀ (l : Nat) (J : Nat → World → Prop) (Jx : World → Prop) (W : World), KeepB S w0 W → (∀ k W1, k < N → J k W1 → C k W1) →
    (∀ k W1, k < N → J k W1 → YieldAt WF 1 P l (args k) W1 fun e W' => (e = .returned (.bool true) ∧ J (k + 1) W' ∧ KeepB S W1 W') ∨ (e = .returned (.bool false) ∧ Jx W')) →
    J 0 W → CallsIn WF 2 P g (#[.func (.yield l) #[] #[]] ++ lb) W fun e W' => (∃ v, e = .returned v) ∧ (J N W' ∨ Jx W')

theorem wp_roundsC {P : Program} {g : Operand} {ps : Array Tmp} {assign body : Code} {Q : Exit → Act → World → Prop} {a : Act} {w : World}
    {gf : Nat} {lb : Array Value} (hg : a.eval g = .func (.func gf) #[] lb) (eg : ∀ args w, (callFunc gf args).run P w = .ok (.enter gf args) w)
    {args : Nat → Array Value} {N : Nat} {S : Nat → Prop} {C : Nat → World → Prop} (hS : ∀ k, S k → k < w.heap.size) (hseq : RoundsC P gf lb args N S C w) (hps : ∀ k, (args k).size = ps.size)
    (I : Nat → World → Prop) (Ix : Code → World → Prop) (hI : OwnFrom w.heap.size I) (hIx : ∀ c, OwnFrom w.heap.size (fun (_ : Unit) => Ix c)) (h0 : I 0 w) (hCI : ∀ k W, k < N → I k W → C k W) (a1 : Nat → Act)
    (hassign : ∀ (l k : Nat) (W : World) (K : Act → World → Prop), K (a1 k) W →
      assign.wpIn (WF.inRound l) 1 P (Exit.then K (fun _ _ _ => False)) { tmps := (ps.zip (args k)).foldl (fun t (p, v) => t.setIfInBounds p v) a.tmps, defers := [] } W)
    (hbody : ∀ (l k : Nat) (W : World), k < N → I k W → body.wpIn (WF.inRound l) 1 P (roundEnd w.heap.size S I Ix k W) (a1 k) W)
    (hdone : ∀ (D : Nat) (W : World), w.heap.size ≤ D → I N W → W.heap[D]? = some (.deferred (some [])) → Q .normal { a with defers := { target := .collected D, args := #[] } :: a.defers } W)
    (hstop : ∀ (D : Nat) (c : Code) (W : World), w.heap.size ≤ D → Ix c W → W.heap[D]? = some (.deferred (some [])) → c.wpIn WF 3 P Q { a with defers := { target := .collected D, args := #[] } :: a.defers } W) :
    (Code.rangeFunc g ps assign body).wpIn WF 3 P Q a w := by
  refine wpIn_rangeFunc fun fn hfn => ?_
  have hro : WF.round = none := rfl
  rw [hro]
  -- the record of the loop lies at L, the block for the deferred calls of its rounds below it
  generalize hLd : w.heap.size + 1 = L
  obtain ⟨rec, hrec⟩ : ∃ rec : LoopState → Option Code → Loop, ∀ st pe, rec st pe = { state := st, pending := pe, fn, tmps := a.tmps, params := ps, assign, body, defers := w.heap.size } := ⟨_, fun _ _ => rfl⟩
  obtain ⟨V, hV⟩ : ∃ V, V = (w.alloc (.deferred (some []))).alloc (.loop (rec .ready none)) := ⟨_, rfl⟩
  have vL : V.heap[L]? = some (.loop (rec .ready none)) := by
    have h := World.alloc_heap_new (w.alloc (.deferred (some []))) (.loop (rec .ready none))
    rw [World.size_alloc, hLd, ← hV] at h; exact h
  have vD : V.heap[w.heap.size]? = some (.deferred (some [])) := by
    rw [hV]; exact (Below.heap_alloc _ _ _ (by simp)).trans (World.alloc_heap_new w _)
  have vI : I 0 V := by rw [hV]; exact hI.alloc _ (hI.alloc _ h0)
  have vB : KeepB S w V := by rw [hV]; exact KeepB.gr (((Gr.refl w).alloc _).alloc _) hS
  have hSL : ¬ S L := fun h => by have := hS _ h; omega
  refine ⟨L, [{ target := .collected w.heap.size, args := #[] }], V, { target := .fn (.func gf) lb, args := #[.func (.yield L) #[] #[]] }, V, gf, #[.func (.yield L) #[] #[]] ++ lb, V, ?_, ?_, fun _ _ => trivial, ?_, fun _ => by omega, ?_⟩
  · rw [hV, hrec, ← hLd]; exact run_enterLoop_outer _ _ _ _ _
  · simp only [resolve, hg]
    simp [go_sem]
  · simp [invoke, go_sem, eg]
  · refine (hseq L (fun k W => I k W ∧ W.heap[L]? = some (.loop (rec .ready none)) ∧ W.heap[w.heap.size]? = some (.deferred (some [])))
      (fun W => ∃ c, Ix c W ∧ W.heap[L]? = some (.loop (rec .done (some c))) ∧ W.heap[w.heap.size]? = some (.deferred (some []))) V vB (fun k W1 hk h => hCI k W1 hk h.1) ?_ ⟨vI, vL, vD⟩).mono ?_
    · -- the k-th round
      rintro k W hk ⟨wI, wL, wD⟩
      have lL : L < W.heap.size := (Array.getElem?_eq_some_iff.1 wL).1
      have hy := run_yield (P := P) (args := args k) wL (by rw [hrec]; exact hps k)
      rw [hrec] at hy
      refine ⟨fn, _, assign, body, hy, roundIn_of_wpIn hfn (hassign _ k W _ ⟨_, run_beginRound wL (by rw [hrec]), ?_⟩)⟩
      obtain ⟨X, hX⟩ : ∃ X, X = W.putObj L (.loop { rec .ready none with state := .busy }) := ⟨_, rfl⟩
      rw [← hX]
      have xL : X.heap[L]? = some (.loop { rec .ready none with state := .busy }) := by rw [hX]; exact World.putObj_heap_same lL
      have xD : X.heap[w.heap.size]? = some (.deferred (some [])) := by rw [hX]; exact (World.putObj_heap_other (by omega)).trans wD
      have xI : I k X := by rw [hX]; exact hI.putObj _ wI (by omega) wL rfl
      have xB : KeepB S W X := by rw [hX]; exact KeepB.putObj hSL
      refine wpIn_mono (hbody L k X hk xI) ?_
      have shut : ∀ (jump : Option Code) (Y : World), KeepsFrom w.heap.size X Y →
          (Instr.endRound L jump).run P Y = .ok (.bool jump.isNone) (Y.putObj L (.loop (rec (if jump.isNone then .ready else .done) jump))) ∧ Y.heap[L]? = some (.loop { rec .ready none with state := .busy }) ∧
          (Y.putObj L (.loop (rec (if jump.isNone then .ready else .done) jump))).heap[L]? = some (.loop (rec (if jump.isNone then .ready else .done) jump)) ∧
          (Y.putObj L (.loop (rec (if jump.isNone then .ready else .done) jump))).heap[w.heap.size]? = some (.deferred (some [])) := by
        intro jump Y hk3
        have yL := hk3.same _ _ (by omega) xL rfl
        have yD := hk3.same _ _ (Nat.le_refl _) xD rfl
        have hend := run_endRound (P := P) jump yL
        rw [hrec] at hend
        refine ⟨by rw [hend, hrec], yL, World.putObj_heap_same (Array.getElem?_eq_some_iff.1 yL).1, (World.putObj_heap_other (by omega)).trans yD⟩
      rintro e a3 Y hp
      cases e with
      | normal =>
        obtain ⟨h1, h2, h3⟩ := hp
        obtain ⟨r, y1, y2, y3⟩ := shut none Y h1
        exact ⟨_, _, r, .inl ⟨rfl, ⟨hI.putObj _ h3 (by omega) y1 rfl, y2, y3⟩, (xB.trans h2).trans (KeepB.putObj hSL)⟩⟩
      | ret =>
        obtain ⟨h1, h2⟩ := hp
        obtain ⟨r, y1, y2, y3⟩ := shut (some .ret) Y h1
        exact ⟨_, _, r, .inr ⟨rfl, .ret, (hIx _).putObj (s := ()) _ h2 (by omega) y1 rfl, y2, y3⟩⟩
      | exit id =>
        obtain ⟨h1, h2⟩ := hp
        obtain ⟨r, y1, y2, y3⟩ := shut (some (.exit id)) Y h1
        exact ⟨_, _, r, .inr ⟨rfl, .exit id, (hIx _).putObj (s := ()) _ h2 (by omega) y1 rfl, y2, y3⟩⟩
      | goto t => exact hp.elim
      | panic ch => exact hp.elim
      | outgrown => exact hp.elim
    · -- behind the iterator
      rintro e W2 ⟨⟨v, rfl⟩, (⟨hi, hl, hd⟩ | ⟨c, hi, hl, hd⟩)⟩
      · have hend := run_endLoop (P := P) hl (by rw [hrec]; simp)
        rw [hrec] at hend
        exact ⟨none, _, hend, hdone _ _ (Nat.le_refl _) (hI.putObj _ hi (by omega) hl rfl) ((World.putObj_heap_other (by omega)).trans hd)⟩
      · have hend := run_endLoop (P := P) hl (by rw [hrec]; simp)
        rw [hrec] at hend
        exact ⟨some c, _, hend, hstop _ c _ (Nat.le_refl _) ((hIx c).putObj (s := ()) _ hi (by omega) hl rfl) ((World.putObj_heap_other (by omega)).trans hd)⟩

open Z
attribute [local go_sem] Oper.semAt_some

set_option maxHeartbeats 2000000 in
set_option maxRecDepth 100000 in
theorem i_roundsC (xs : List Nat) (g cap : Nat) (Bs : Nat) (S : Nat → Prop) (w0 : World) (hS : S Bs)
    (hB : w0.cell? ⟨Bs, 0, none⟩ = some (.slice (some ⟨g, 0, none⟩) xs.length cap)) (hsm : small 1000000000 xs) (hlen : xs.length ≤ 3000000) :
    RoundsC Tryz.prog 192 #[.pointer (some ⟨Bs, 0, none⟩)] (downArgs xs) xs.length S (fun k W => W.cell? ⟨g, xs.length - 1 - k, none⟩ = some (.int .u32 (xs.getD (xs.length - 1 - k) 0 : Nat))) w0 := by
  intro l J Jx W hW hCC hY h0
  have hcB : ∀ X, KeepB S w0 X → X.cell? ⟨Bs, 0, none⟩ = some (.slice (some ⟨g, 0, none⟩) xs.length cap) := fun X hX => (hX.cell (p := ⟨Bs, 0, none⟩) hS).trans hB
  have HCB := Lib.hid hcB; clear hcB
  have HCC := Lib.hid hCC; clear hCC
  have HY := Lib.hid hY; clear hY
  have HSM := Lib.hid hsm; clear hsm
  have hc0 := HCB.out W hW
  refine callsIn_of_wp Tryz.func192 rfl trivial ?_ rfl
  simp only [Tryz.ntmps192, List.size_toArray, List.length_cons, List.length_nil, Nat.reduceAdd, Nat.reduceSub, Array.replicate_succ, Array.replicate_zero, List.push_toArray, List.append_toArray, List.nil_append, List.cons_append]
  gi_wp2
  gi_loopw [3] (fun i wr => ∃ q : Int, i = .int .i64 q ∧ -1 ≤ q ∧ q < xs.length ∧ Hid (J (xs.length - (q + 1).toNat) wr) ∧ KeepB S w0 wr) (fun i _ => (intOf i + 1).toNat)
  case atStart => exact ⟨_, rfl, by omega, by omega, by show J _ _; rw [show xs.length - ((xs.length : Int) - 1 + 1).toNat = 0 by omega]; exact h0, hW⟩
  case round =>
    obtain ⟨q, rfl, q1, q2, HJ, hnx⟩ := hrel
    have hcx := HCB.out wr hnx
    by_cases hq : 0 ≤ q
    · obtain ⟨j, rfl⟩ : ∃ j : Nat, q = j := ⟨q.toNat, by omega⟩
      have hjl : j < xs.length := by omega
      have hx : xs[j] < 1000000000 := HSM.out _ (List.getElem_mem hjl)
      have hgd : xs.getD (xs.length - 1 - (xs.length - (j + 1))) 0 = xs[j] := by
        rw [show xs.length - 1 - (xs.length - (j + 1)) = j by omega]; simp [hjl]
      obtain ⟨fn, tmps, assign, body, hy, hR⟩ := HY.out (xs.length - (j + 1)) wr (by omega) (by have := HJ.out; rwa [show ((j : Int) + 1).toNat = j + 1 by omega] at this)
      unfold downArgs at hy
      rw [hgd, show xs.length - 1 - (xs.length - (j + 1)) = j by omega] at hy
      have hcj : wr.cell? ⟨g, j, none⟩ = some (.int .u32 (xs[j] : Nat)) := by
        have h := HCC.out (xs.length - (j + 1)) wr (by omega) (by have := HJ.out; rwa [show ((j : Int) + 1).toNat = j + 1 by omega] at this)
        rw [hgd, show xs.length - 1 - (xs.length - (j + 1)) = j by omega] at h; exact h
      clear hgd
      generalize xs[j] = x at hx hcj hy
      gi_wp2
      refine hR.mono ?_
      rintro e W3 (⟨rfl, hJ3, hk3⟩ | ⟨rfl, hJx3⟩)
      · have HJ3 := Lib.hid hJ3; clear hJ3
        gi_wp2
        go_roundw
        case rel => exact ⟨(j : Int) - 1, rfl, by omega, by omega, by have h := HJ3.out; show J _ _; rwa [show xs.length - ((j : Int) - 1 + 1).toNat = xs.length - (j + 1) + 1 by omega], hnx.trans hk3⟩
        case measure => simp [intOf]
      · have HX3 := Lib.hid hJx3; clear hJx3
        gi_wp2
        refine bodyPost_ret (results_none rfl _ _ _) rfl ?_
        exact ⟨⟨_, rfl⟩, .inr HX3.out⟩
    · have hq1 : q = -1 := by omega
      subst hq1
      gi_wp2
      go_end0
      exact ⟨⟨_, rfl⟩, .inl (by have h := HJ.out; rwa [show xs.length - ((-1 : Int) + 1).toNat = xs.length by omega] at h)⟩

end Go.Proofs.YtlbnibicehpobaaGreatDoor
