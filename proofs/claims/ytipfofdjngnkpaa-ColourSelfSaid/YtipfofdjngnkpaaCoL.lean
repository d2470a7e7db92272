/- Law 11: the program's Nearest. -/
import Derived.Test.YtipfofdjngnkpaaCoK
set_option linter.unusedVariables false
set_option linter.unusedSimpArgs false
namespace Go.Proofs.Ytipfofdjngnkpaa.Z
open Go
theorem bestN_lt (c : C3) {l : List C3} (h : 0 < l.length) : ∀ i, i ≤ l.length → bestN c l i < l.length
  | 0, _ => by unfold bestN; exact h
  | i + 1, hi => by
    unfold bestN
    split
    · omega
    · exact bestN_lt c h i (by omega)
end Go.Proofs.Ytipfofdjngnkpaa.Z
namespace Go.Proofs.Ytipfofdjngnkpaa
open Go.RowKit
open Z
/-- a list of colours lies behind an address -/
def Rd3 (w : World) (a : Option Addr) (l : List C3) : Prop := ∀ k (h : k < l.length), ∃ b o, a = some ⟨b, o, none⟩ ∧ w.cell? ⟨b, o + k * 3, none⟩ = some (.int .i64 l[k].1) ∧ w.cell? ⟨b, o + k * 3 + 1, none⟩ = some (.int .i64 l[k].2.1) ∧ w.cell? ⟨b, o + k * 3 + 2, none⟩ = some (.int .i64 l[k].2.2)
theorem Rd3.gr {w w' : World} {a : Option Addr} {l : List C3} (h : Rd3 w a l) (hg : Gr w w') : Rd3 w' a l := fun k hk => by
  obtain ⟨b, o, h1, h2, h3, h4⟩ := h k hk
  exact ⟨b, o, h1, gr_cell hg h2, gr_cell hg h3, gr_cell hg h4⟩
set_option maxRecDepth 100000 in
set_option maxHeartbeats 4000000 in
theorem co_Nearest (c : C3) {a : Option Addr} {l : List C3} {cap : Nat} (w : World) (hr : Rd3 w a l) (hl : l.length ≤ maxLen) :
    Calls Try.prog 21 #[vC c, .slice a l.length cap] w fun e w' => e = .returned (.tuple #[.int .i64 (nearR c l).1, .int .i64 (nearR c l).2]) ∧ Gr w w' := by
  have HK : Hid (∀ (w : World) g (c : C3) (h : C3At w g c), Calls Try.prog 31 #[.slice (some ⟨g, 0, none⟩) 3 3] w fun e w' => e = .returned (.int .i64 (if isC c = true then 0 else 2)) ∧ w' = w) := Lib.hid (fun (w : World) g c (h : C3At w g c) => by
    have hall : ([c.1, c.2.1, c.2.2].all isL) = isC c := by simp [isC]
    rw [← hall]
    exact co_checkLevels (cap := 3) w h.rd (by show 3 ≤ maxLen; decide))
  have HG0 := Lib.hid ((Gr.refl w).alloc (.cells #[.int .i64 c.1, .int .i64 c.2.1, .int .i64 c.2.2] 23))
  have HC0 := Lib.hid (C3At.new w c)
  have HR := Lib.hid hr
  obtain ⟨V, hV⟩ : ∃ V, nearR c l = V := ⟨_, rfl⟩
  rw [hV]
  unfold nearR at hV
  have HK0 := Lib.hid (HK.out _ _ _ HC0.out)
  have HC := Lib.hid (show isC c = isC c from rfl)
  obtain ⟨ic, hic⟩ : ∃ v, isC c = v := ⟨_, rfl⟩
  rw [hic] at HK0 hV
  cases ic
  · rw [if_pos rfl] at hV
    rw [if_neg (by simp)] at HK0
    subst hV
    obtain ⟨x, y, z⟩ := c
    unfold vC
    clear hic HC hr
    go_enter Try.func21, Try.ntmps21
    go_wp2_with fail
    refine HK0.out.mono ?_; rintro e w1 ⟨rfl, hw1⟩
    subst hw1
    go_wp2
    go_ret2
    exact ⟨rfl, HG0.out⟩
  · rw [if_neg (by simp)] at hV
    rw [if_pos rfl] at HK0
    have HIC := Lib.hid hic
    clear HC hic hr
    obtain ⟨W0, hW0⟩ : ∃ v, v = w.alloc (.cells #[.int .i64 c.1, .int .i64 c.2.1, .int .i64 c.2.2] 23) := ⟨_, rfl⟩
    rw [← hW0] at HG0 HC0 HK0
    obtain ⟨x, y, z⟩ := c
    unfold vC
    simp only at hW0
    have HW0 := Lib.hid hW0
    clear hW0
    by_cases h0 : l.length = 0
    · rw [if_pos h0] at hV
      subst hV
      rw [h0]
      clear h0
      go_enter Try.func21, Try.ntmps21
      go_wp2_with fail
      rw [← HW0.out]
      refine HK0.out.mono ?_; rintro e w1 ⟨rfl, hw1⟩
      subst hw1
      go_wp2
      go_ret2
      exact ⟨rfl, HG0.out⟩
    · rw [if_neg h0] at hV
      by_cases h256 : 256 < l.length
      · rw [if_pos h256] at hV
        subst hV
        have hd : decide ((256 : Int) < (l.length : Int)) = true := decide_eq_true (by omega)
        have hz : ((l.length : Int) == 0) = false := by rw [beq_eq_false_iff_ne]; omega
        generalize l.length = n at *
        unfold maxLen at hl
        go_enter Try.func21, Try.ntmps21
        go_wp2_with fail
        rw [← HW0.out]
        refine HK0.out.mono ?_; rintro e w1 ⟨rfl, hw1⟩
        subst hw1
        go_wp2
        go_ret2
        exact ⟨rfl, HG0.out⟩
      · rw [if_neg h256] at hV
        have HV := Lib.hid hV
        clear hV
        have hd : decide ((256 : Int) < (l.length : Int)) = false := decide_eq_false (by omega)
        have hz : ((l.length : Int) == 0) = false := by rw [beq_eq_false_iff_ne]; omega
        have HB := Lib.hid (fun i h => bestN_lt (x, y, z) (l := l) (by omega) i h)
        obtain ⟨n, hn⟩ : ∃ n, n = l.length := ⟨_, rfl⟩
        have HN := Lib.hid hn
        rw [← hn] at h0 h256 hd hz hl ⊢
        clear hn hl
        go_enter Try.func21, Try.ntmps21
        go_wp2_with fail
        rw [← HW0.out]
        refine HK0.out.mono ?_; rintro e w1 ⟨rfl, hw1⟩
        subst hw1
        clear HK0 HW0
        go_wp2_with fail
        go_loopw [8, 9, 29] (fun _ _ i wr => ∃ k : Nat, i = .int .i64 k ∧ k ≤ n ∧ Hid (Gr w1 wr) ∧ Hid (∀ j (hj : j < l.length), j < k → isC l[j] = true)) (fun _ _ i _ => n - (intOf i).toNat)
        case atStart => exact ⟨0, rfl, Nat.zero_le _, Gr.refl _, fun j hj h => absurd h (by omega)⟩
        case round =>
          obtain ⟨k, rfl, hk, HGr, HA⟩ := hrel
          by_cases hlt : k < n
          · have hkl : k < l.length := by rw [← HN.out]; exact hlt
            obtain ⟨b, o, rfl, d0, d1, d2⟩ := (HR.out.gr (HG0.out.trans HGr.out)) k hkl
            have HQ : Hid (isC l[k] = true → ∀ j (hj : j < l.length), j < k + 1 → isC l[j] = true) := Lib.hid fun e j hj h => by
              by_cases hjk : j = k
              · subst hjk; exact e
              · exact HA.out j hj (by omega)
            have HX : Hid (isC l[k] = false → V = (0, 2)) := Lib.hid fun e => by
              rw [← HV.out, if_neg]; intro h; rw [List.all_eq_true] at h; rw [h _ (List.getElem_mem hkl)] at e; cases e
            clear HA
            generalize l[k] = u at *
            have HC1 := Lib.hid (C3At.new wr u)
            have HG1 := Lib.hid (HGr.out.alloc (.cells #[.int .i64 u.1, .int .i64 u.2.1, .int .i64 u.2.2] 23))
            obtain ⟨u0, u1, u2⟩ := u
            simp only at d0 d1 d2 HC1 HG1
            have HK1 := Lib.hid (HK.out _ _ _ HC1.out)
            generalize hi2 : isC (u0, u1, u2) = i2 at *
            cases i2
            · rw [if_neg (by simp)] at HK1
              have hv := HX.out rfl
              subst hv
              clear HX HQ HV hi2
              go_wp2_with fail
              refine HK1.out.mono ?_; rintro e w2 ⟨rfl, hw2⟩
              subst hw2
              go_wp2
              go_ret2
              exact ⟨rfl, HG0.out.trans HG1.out⟩
            · rw [if_pos rfl] at HK1
              have HQ1 := Lib.hid (HQ.out rfl)
              clear HX HQ hi2
              go_wp2_with fail
              refine HK1.out.mono ?_; rintro e w2 ⟨rfl, hw2⟩
              subst hw2
              go_wp2
              go_roundw
              case rel => exact ⟨k + 1, by go_num, by omega, HG1.out, HQ1.out⟩
              case measure => simp [intOf]; omega
          · have HALL : Hid (∀ j (hj : j < l.length), isC l[j] = true) := Lib.hid fun j hj => HA.out j hj (by have := HN.out; omega)
            have HV2 : Hid (V = (((bestN (x, y, z) l n : Nat) : Int), (0 : Int))) := Lib.hid (by
              rw [← HV.out, if_pos, HN.out]
              rw [List.all_eq_true]; intro u hu; obtain ⟨j, hj, rfl⟩ := List.getElem_of_mem hu; exact HALL.out j hj)
            have HC2 := Lib.hid (HC0.out.gr HGr.out)
            have HG2 := Lib.hid (HG0.out.trans HGr.out)
            clear HA HV HGr HG0 HC0 HK
            go_wp2_with (first | (refine wpl_load3 rfl rfl rfl HC2.out ?_))
            refine (co_nearerTo (x, y, z) _).mono ?_; rintro e w3 ⟨⟨q, rfl, hq⟩, hg3⟩
            have HQ := Lib.hid hq
            have HG3 := Lib.hid (HG2.out.trans hg3)
            clear hq hg3 HC2 HG2
            go_wp2_with fail
            go_loopw [11, 12, 13, 43] (fun t11 _ _ i wr => ∃ (k m : Nat), i = .int .i64 k ∧ t11 = .int .i64 m ∧ k ≤ n ∧ m < n ∧ Hid (m = bestN (x, y, z) l k) ∧ Hid (Gr w wr) ∧ Hid (NearAt wr q (x, y, z))) (fun _ _ _ i _ => n - (intOf i).toNat)
            case atStart => exact ⟨0, 0, rfl, rfl, Nat.zero_le _, by omega, rfl, HG3.out, HQ.out⟩
            case round =>
              obtain ⟨k, m, rfl, rfl, hk, hm, HM, HGr, HNr⟩ := hrel
              by_cases hlt : k < n
              · have hkl : k < l.length := by rw [← HN.out]; exact hlt
                have hml : m < l.length := by rw [← HN.out]; exact hm
                obtain ⟨b, o, hab, d0, d1, d2⟩ := (HR.out.gr HGr.out) k hkl
                obtain ⟨b', o', hab', f0, f1, f2⟩ := (HR.out.gr HGr.out) m hml
                subst hab
                simp only [Option.some.injEq, Addr.mk.injEq, and_true] at hab'
                obtain ⟨rfl, rfl⟩ := hab'
                have hic1 := HALL.out k hkl
                have hic2 := HALL.out m hml
                have HS : Hid (bestN (x, y, z) l (k + 1) = if farR (x, y, z) l[k] < farR (x, y, z) l[m] then k else m) := Lib.hid (by
                  rw [bestN, ← HM.out]
                  have e1 : l.getD k (0, 0, 0) = l[k] := by simp [List.getD, List.getElem?_eq_getElem hkl]
                  have e2 : l.getD m (0, 0, 0) = l[m] := by simp [List.getD, List.getElem?_eq_getElem hml]
                  rw [e1, e2])
                clear HM
                generalize l[k] = u at *
                generalize l[m] = v at *
                obtain ⟨u0, u1, u2⟩ := u
                obtain ⟨v0, v1, v2⟩ := v
                simp only at d0 d1 d2 f0 f1 f2
                have hnm := HNr.out
                obtain ⟨W, hW⟩ : ∃ W, W = wr.alloc (.cells #[.int .i64 u0, .int .i64 u1, .int .i64 u2] 23) := ⟨_, rfl⟩
                have g1 : Gr wr W := by rw [hW]; exact (Gr.refl _).alloc _
                have HE := Lib.hid (show C3At W wr.heap.size (u0, u1, u2) by rw [hW]; exact C3At.new wr (u0, u1, u2))
                have k0 := gr_cell g1 f0
                have k1 := gr_cell g1 f1
                have k2 := gr_cell g1 f2
                have HNW := Lib.hid (hnm.gr g1)
                have HGW := Lib.hid (HGr.out.trans g1)
                have HWW := Lib.hid hW
                have b1 : (0 : Int) ≤ (m : Int) := by omega
                have b2 : (m : Int) < (n : Int) := by omega
                clear hW g1 hnm HNr HGr f0 f1 f2
                go_wp2_with fail
                rw [← HWW.out]
                clear HWW d0 d1 d2
                have hS0 : (fun w' : World => C3At w' wr.heap.size (u0, u1, u2) ∧ w'.cell? ⟨b, o + m * 3, none⟩ = some (.int .i64 v0) ∧ w'.cell? ⟨b, o + m * 3 + 1, none⟩ = some (.int .i64 v1) ∧ w'.cell? ⟨b, o + m * 3 + 2, none⟩ = some (.int .i64 v2) ∧ NearAt w' q (x, y, z) ∧ Gr w w') W.drew := ⟨HE.out.drew, k0, k1, k2, HNW.out.drew, HGW.out.drew⟩
                refine wp_region_held (S := fun w' : World => C3At w' wr.heap.size (u0, u1, u2) ∧ w'.cell? ⟨b, o + m * 3, none⟩ = some (.int .i64 v0) ∧ w'.cell? ⟨b, o + m * 3 + 1, none⟩ = some (.int .i64 v1) ∧ w'.cell? ⟨b, o + m * 3 + 2, none⟩ = some (.int .i64 v2) ∧ NearAt w' q (x, y, z) ∧ Gr w w') (by kernel_rfl) ?_
                refine wpAnyH_take (i := 0) (v := .func (.func 60) #[] #[.pointer (some ⟨q, 0, none⟩)]) rfl (by kernel_rfl) (by kernel_rfl) (by kernel_rfl) (fun _ _ _ h => h) (Or.inl ⟨by rfl, ?_⟩) hS0 ?_
                · intro w hSw; go_simp
                try simp only [Act.put, List.getElem_toArray, List.getElem_cons_succ, List.getElem_cons_zero, List.setIfInBounds_toArray, List.set_cons_zero, List.set_cons_succ]
                refine wpAnyH_take (i := 1) (v := vC (u0, u1, u2)) rfl (by kernel_rfl) (by kernel_rfl) (by kernel_rfl) (fun _ _ _ h => h) (Or.inl ⟨by rfl, ?_⟩) hS0 ?_
                · intro w hSw; exact exec_load3 _ rfl rfl hSw.1
                try simp only [Act.put, List.getElem_toArray, List.getElem_cons_succ, List.getElem_cons_zero, List.setIfInBounds_toArray, List.set_cons_zero, List.set_cons_succ]
                refine wpAnyH_take (i := 2) (v := .slice (some ⟨b, o, none⟩) n cap) rfl (by kernel_rfl) (by kernel_rfl) (by kernel_rfl) (fun _ _ _ h => h) (Or.inl ⟨by rfl, ?_⟩) hS0 ?_
                · intro w hSw; go_simp
                try simp only [Act.put, List.getElem_toArray, List.getElem_cons_succ, List.getElem_cons_zero, List.setIfInBounds_toArray, List.set_cons_zero, List.set_cons_succ]
                refine wpAnyH_take (i := 3) (v := .int .i64 m) rfl (by kernel_rfl) (by kernel_rfl) (by kernel_rfl) (fun _ _ _ h => h) (Or.inl ⟨by rfl, ?_⟩) hS0 ?_
                · intro w hSw; go_simp
                try simp only [Act.put, List.getElem_toArray, List.getElem_cons_succ, List.getElem_cons_zero, List.setIfInBounds_toArray, List.set_cons_zero, List.set_cons_succ]
                refine wpAnyH_take (i := 4) (v := .pointer (some ⟨b, o + m * 3, none⟩)) rfl (by kernel_rfl) (by kernel_rfl) (by kernel_rfl) (fun _ _ _ h => h) (Or.inl ⟨by rfl, ?_⟩) hS0 ?_
                · intro w hSw; go_simp
                try simp only [Act.put, List.getElem_toArray, List.getElem_cons_succ, List.getElem_cons_zero, List.setIfInBounds_toArray, List.set_cons_zero, List.set_cons_succ]
                refine wpAnyH_take (i := 5) (v := vC (v0, v1, v2)) rfl (by kernel_rfl) (by kernel_rfl) (by kernel_rfl) (fun _ _ _ h => h) (Or.inl ⟨by rfl, ?_⟩) hS0 ?_
                · intro w hSw; obtain ⟨s1, s2, s3, s4, s5⟩ := hSw; unfold vC; go_simp
                try simp only [Act.put, List.getElem_toArray, List.getElem_cons_succ, List.getElem_cons_zero, List.setIfInBounds_toArray, List.set_cons_zero, List.set_cons_succ]
                refine wpAnyH_ready (rs := [6]) (by kernel_rfl) (by simp) (AllReadyH.cons rfl (fun K' hK' => ?_) AllReadyH.nil)
                go_simp
                refine (co_near (x, y, z) (u0, u1, u2) (v0, v1, v2) HIC.out hic1 hic2 q _ hS0.2.2.2.2.1).mono ?_; rintro e w6 ⟨rfl, hg6⟩
                refine hK'.out _ _ ⟨hS0.1.gr hg6, gr_cell hg6 hS0.2.1, gr_cell hg6 hS0.2.2.1, gr_cell hg6 hS0.2.2.2.1, hS0.2.2.2.2.1.gr hg6, hS0.2.2.2.2.2.trans hg6⟩ (fun hS1 => ?_)
                clear hK' K'
                try simp only [Act.put, List.getElem_toArray, List.getElem_cons_succ, List.getElem_cons_zero, List.setIfInBounds_toArray, List.set_cons_zero, List.set_cons_succ]
                refine wpAnyH_done (by kernel_rfl) ?_ _
                generalize hfd : decide (farR (x, y, z) (u0, u1, u2) < farR (x, y, z) (v0, v1, v2)) = fd at *
                cases fd
                · have HS2 : Hid (m = bestN (x, y, z) l (k + 1)) := Lib.hid (by rw [HS.out, if_neg (of_decide_eq_false hfd)])
                  have HNn := Lib.hid hS1.2.2.2.2.1
                  have HGn := Lib.hid hS1.2.2.2.2.2
                  clear HS hfd hS1 hS0 k0 k1 k2 HE HNW HGW
                  go_wp2
                  go_roundw
                  case rel => exact ⟨k + 1, m, by go_num, rfl, by omega, hm, HS2.out, HGn.out, HNn.out⟩
                  case measure => simp [intOf]; omega
                · have HS2 : Hid (k = bestN (x, y, z) l (k + 1)) := Lib.hid (by rw [HS.out, if_pos (of_decide_eq_true hfd)])
                  have HNn := Lib.hid hS1.2.2.2.2.1
                  have HGn := Lib.hid hS1.2.2.2.2.2
                  clear HS hfd hS1 hS0 k0 k1 k2 HE HNW HGW
                  go_wp2
                  go_roundw
                  case rel => exact ⟨k + 1, k, by go_num, rfl, by omega, hlt, HS2.out, HGn.out, HNn.out⟩
                  case measure => simp [intOf]; omega
              · have hkn : k = n := by omega
                subst hkn
                have hv := HV2.out
                rw [← HM.out] at hv
                subst hv
                clear HM HV2
                go_wp2
                go_ret2
                exact ⟨rfl, HGr.out⟩
end Go.Proofs.Ytipfofdjngnkpaa
