/- The top law TopGlidesContinuous. -/
import Derived.Test.YtffifpinnhaloaaGreatDoorTop02c
import Derived.Test.YtffifpinnhaloaaGreatDoorGlG
set_option linter.unusedVariables false
set_option linter.unusedSimpArgs false
namespace Go.Proofs.YtffifpinnhaloaaGreatDoor
open Go.RowKit Go.Shelf
open Z

theorem Made.ti {g : Gl} {l : List T3} {ch : List Gl} (h : Made g l ch) {m : Int} (hg : m ≤ g.ti) (hl : ∀ j (hj : j < l.length), m ≤ l[j].2.2) : ∀ c ∈ ch, m ≤ c.ti := by
  intro c hc
  obtain ⟨j, hj, rfl⟩ := List.getElem_of_mem hc
  obtain ⟨h1, h2, -, -, h5⟩ := h
  cases j with
  | zero =>
    rw [List.head?_eq_getElem?, List.getElem?_eq_getElem hj] at h2
    rw [Option.some.inj h2]; exact hg
  | succ j =>
    obtain ⟨c, e1, -, -, e4⟩ := h5 j (by omega) (by omega)
    rw [List.getElem?_eq_getElem hj] at e1
    rw [Option.some.inj e1, e4]; exact hl j (by omega)
section
variable {w0 : World} (htab : Tab w0) (hmx : Mx w0) (herr : ErrR w0)
include htab hmx herr
/-- what the law calls once the chain is there -/
theorem cont_calls {g : Gl} {l : List T3} {ch : List Gl} {b cap : Nat} {t m : Int} (hl : l.length ≤ 5) (hM : Made g l ch) (hr : RdG w0 (some ⟨b, 0, none⟩) ch) (hcc : ch.length ≤ cap) (hcm : cap ≤ maxLen) (t0 : 0 ≤ t) (t1 : t ≤ 10000000) (m0 : 0 < m) (m1 : m ≤ 10000000) (hg : m ≤ g.ti) (ht : ∀ j (hj : j < l.length), m ≤ l[j].2.2) :
    ∃ (A B lo hi di ov : ByteArray) (c : Int), c ≤ 0 ∧
      RetG w0 27 #[.slice (some ⟨b, 0, none⟩) ch.length cap, .int .i64 t] (.tuple #[.string A, .int .i64 0]) ∧
      RetG w0 27 #[.slice (some ⟨b, 0, none⟩) ch.length cap, .int .i64 (t + 1)] (.tuple #[.string B, .int .i64 0]) ∧
      RetG w0 38 #[.string A] (.int .i64 0) ∧ RetG w0 38 #[.string B] (.int .i64 0) ∧
      RetG w0 45 #[.string A, .string B] (.string lo) ∧ RetG w0 46 #[.string A, .string B] (.string hi) ∧
      RetG w0 47 #[.string hi, .string lo] (.string di) ∧ RetG w0 48 #[.int .i64 65535, .int .i64 m] (.string ov) ∧ RetG w0 40 #[.string di, .string ov] (.int .i64 c) := by
  have h0 : chainE ch = 0 := hM.2.2.1
  have hne : ch ≠ [] := fun e => by have := hM.1; rw [e] at this; simp at this
  have hsz : ∀ x ∈ ch, x.f.size ≤ 200 := fun x hx => (hM.2.2.2.1 x hx).1
  have hG : ∀ x ∈ ch, x.isG := fun x hx => (hM.2.2.2.1 x hx).2
  have hf : Fits ch := .inr fun x hx => by have := hsz x hx; omega
  have hv : ∀ u, valE ch u = (valL ch u, 0) := fun u => by unfold valE; rw [if_pos h0, if_neg hne]
  obtain ⟨p, ep, sp, lp⟩ := valL_lvl (t := t) h0 hne hsz
  obtain ⟨q, eq, sq, lq⟩ := valL_lvl (t := t + 1) h0 hne hsz
  have hV : ∀ u, isJ u → RetG w0 27 #[.slice (some ⟨b, 0, none⟩) ch.length cap, .int .i64 u] (.tuple #[.string (valL ch u), .int .i64 0]) := fun u hu =>
    RetG.of4 fun w1 h => (ret_GValue (htab_gr htab h) (hmx.gr h) (herr.gr h) (hr.gr h) hG hf hcc hcm hu).si (hv u)
  have hL : ∀ {x : Rat}, Sh 420 x → lvlQ x = true → RetG w0 38 #[.string (RT x)] (.int .i64 0) := fun {x} hx hl => RetG.of4 fun w1 _ => by
    have := ret3_Level (w0 := w1) (s := RT x) (by have := RT_size hx; omega)
    rw [compE_RT (hx.inR (by omega)), if_pos hl] at this
    exact this
  have hcon : q - p ≤ Rat.divInt 65535 m ∧ p - q ≤ Rat.divInt 65535 m := by
    obtain ⟨h, r, rfl⟩ : ∃ h r, ch = h :: r := by cases ch with | nil => exact absurd rfl hne | cons h r => exact ⟨h, r, rfl⟩
    have := lv_cont (t := t) m0 r h (facts_of h0) (hM.ti hg ht)
    rw [ep, eq, rv_RT, rv_RT] at this
    exact this
  have hov : 0 ≤ Rat.divInt 65535 m := by have := part_mono (p := 0) (p' := 65535) m0 (by omega); rwa [divInt_zero] at this
  have sm := sh_part (p := 65535) (q := m) (by omega) (by omega) m0 (by omega)
  have hlo : ∃ lo hi : Rat, Sh 420 lo ∧ Sh 420 hi ∧ (if q < p then RT q else RT p) = RT lo ∧ (if p < q then RT q else RT p) = RT hi ∧ hi - lo ≤ Rat.divInt 65535 m := by
    by_cases h : q < p
    · exact ⟨q, p, sq, sp, by rw [if_pos h], by rw [if_neg (by rw [Rat.not_lt]; exact Rat.le_of_lt h)], hcon.2⟩
    · by_cases h' : p < q
      · exact ⟨p, q, sp, sq, by rw [if_neg h], by rw [if_pos h'], hcon.1⟩
      · exact ⟨p, p, sp, sp, by rw [if_neg h], by rw [if_neg h'], by rw [Rat.sub_self]; exact hov⟩
  obtain ⟨lo, hi, slo, shi, elo, ehi, hd⟩ := hlo
  refine ⟨RT p, RT q, RT lo, RT hi, RT (hi - lo), RT (Rat.divInt 65535 m), cmpQ (hi - lo) (Rat.divInt 65535 m), ?_, ?_, ?_, hL sp lp, hL sq lq, ?_, ?_, ?_, ?_, ?_⟩
  · rcases cmpQ_cases (hi - lo) (Rat.divInt 65535 m) with ⟨h, hc, -⟩ | ⟨h, hc, -⟩ | ⟨h, hc, -⟩
    · omega
    · omega
    · exact absurd hd (by rw [Rat.not_le]; exact h)
  · rw [← ep]; exact hV t ⟨by omega, by omega⟩
  · rw [← eq]; exact hV (t + 1) ⟨by omega, by omega⟩
  · exact (RetG.of4 fun w1 _ => ret_Least (w0 := w1) sp sq (by omega) (by omega)).cast (by rw [elo])
  · exact (RetG.of4 fun w1 _ => ret_Most (w0 := w1) sp sq (by omega) (by omega)).cast (by rw [ehi])
  · exact RetG.of4 fun w1 _ => ret_Minus (w0 := w1) shi slo (by omega) (by omega)
  · exact RetG.of4 fun w1 _ => ret_Over (w0 := w1) (by omega) (by omega) (by omega) (by omega) (by omega)
  · exact RetG.of4 fun w1 _ => ret_OrderR (w0 := w1) (shi.sub slo) sm (by omega) (by omega)
set_option maxHeartbeats 4000000 in
set_option maxRecDepth 100000 in
theorem top_TopGlidesContinuous {g : Gl} (hs : g.f.size ≤ maxLen) (hg : g.isG) {a : Option Addr} {l : List T3} {cap : Nat} (hc : RdT w0 a l) (hI : ∀ q ∈ l, isT q) (hlc : l.length ≤ cap) (hcm : cap ≤ maxLen) {t : Int} (ht : isJ t) :
    Ret w0 10 #[vG4 g, .slice a l.length cap, .int .i64 t] (.bool true) := by
  have T := Lib.hid (RetG.of4 (w0 := w0) fun w1 h => top_tryGlides (htab_gr htab h) (hmx.gr h) (herr.gr h))
  obtain ⟨f, x, st, ti⟩ := g
  have hgG := Lib.hid hg
  obtain ⟨hx, hst, hti⟩ := hg
  simp only [Gl.f, Gl.x, Gl.st, Gl.ti] at hs hx hst hti
  have F := Lib.hid (fun w => few_new1 (w := w) (g := (f, x, st, ti)) 24 hs)
  simp only [Gl.f, Gl.x, Gl.st, Gl.ti] at F
  obtain ⟨t0, t1⟩ := id ht
  obtain ⟨i0, i1⟩ := id hti
  unfold maxLen at hcm
  have hlm : l.length ≤ maxLen := by unfold maxLen; omega
  unfold maxLen at hlm
  by_cases h12 : f.size ≤ 120
  · rw [decide_eq_true h12] at F
    have K := RetG.of4 (w0 := w0) fun w1 _ => ret3_Check (w0 := w1) (s := f) (by omega) hx hst hti
    by_cases he : glE f x st ti = 0
    · rw [he] at K
      have K := Lib.hid K
      have HE := Lib.hid (show Gl.err (f, x, st, ti) = 0 from he)
      obtain ⟨b, hb, ib, lb, x0, x1, st0, st1, ti0, ti1⟩ := glE_zero_iff he
      by_cases h5 : 5 < l.length
      · clear htab hmx herr hb ib lb he hc hI h12
        generalize l.length = n at *
        intro w hg
        have HB := Lib.hid (Box4.new w f x st ti 24)
        have HG := Lib.hid (hg.alloc (oGl f x st ti))
        clear hg
        obtain ⟨k0, k1, k2, k3⟩ := id HB.out
        go_enter Tryz.func10, Tryz.ntmps10
        have F2 := F.out (w.alloc (oGl f x st ti))
        rw [World.size_alloc] at F2
        have F2 := Lib.hid F2
        go_wp2_with fail
        refine F2.out.mono ?_
        clear F2
        rintro e w1 ⟨rfl, hg⟩
        have hB := HB.out.gr hg
        replace HG := Lib.hid (Gr.trans HG.out hg)
        clear hg HB k0 k1 k2 k3
        have HB := Lib.hid hB
        obtain ⟨k0, k1, k2, k3⟩ := hB
        go_wp2_with fail
        refine (K.out _ HG.out).mono ?_
        rintro e w1 ⟨rfl, hg⟩
        have hB := HB.out.gr hg
        replace HG := Lib.hid (Gr.trans HG.out hg)
        clear hg HB k0 k1 k2 k3
        have HB := Lib.hid hB
        obtain ⟨k0, k1, k2, k3⟩ := hB
        clear HB k0 k1 k2 k3
        go_wp2_with fail
        refine (T.out _ HG.out).mono ?_
        rintro e w1 ⟨rfl, hg⟩
        replace HG := Lib.hid (Gr.trans HG.out hg); clear hg
        go_wp2
        go_ret
        exact ⟨rfl, HG.out⟩
      · have hll : (l.length : Int) ≤ 5 := by omega
        by_cases hti0 : ti = 0
        · have hzt : (ti == 0) = true := by simpa using hti0
          clear htab hmx herr hb ib lb he hc hI h12 hti0
          obtain ⟨n, hn⟩ : ∃ n, n = l.length := ⟨_, rfl⟩
          rw [← hn] at h5 hlc hlm hll ⊢
          clear hn
          intro w hg
          have HB := Lib.hid (Box4.new w f x st ti 24)
          have HG := Lib.hid (hg.alloc (oGl f x st ti))
          clear hg
          obtain ⟨k0, k1, k2, k3⟩ := id HB.out
          go_enter Tryz.func10, Tryz.ntmps10
          have F2 := F.out (w.alloc (oGl f x st ti))
          rw [World.size_alloc] at F2
          have F2 := Lib.hid F2
          go_wp2_with fail
          refine F2.out.mono ?_
          clear F2
          rintro e w1 ⟨rfl, hg⟩
          have hB := HB.out.gr hg
          replace HG := Lib.hid (Gr.trans HG.out hg)
          clear hg HB k0 k1 k2 k3
          have HB := Lib.hid hB
          obtain ⟨k0, k1, k2, k3⟩ := hB
          go_wp2_with fail
          refine (K.out _ HG.out).mono ?_
          rintro e w1 ⟨rfl, hg⟩
          have hB := HB.out.gr hg
          replace HG := Lib.hid (Gr.trans HG.out hg)
          clear hg HB k0 k1 k2 k3
          have HB := Lib.hid hB
          obtain ⟨k0, k1, k2, k3⟩ := hB
          go_wp2_with fail
          refine (T.out _ HG.out).mono ?_
          rintro e w1 ⟨rfl, hg⟩
          replace HG := Lib.hid (Gr.trans HG.out hg); clear hg
          go_wp2
          go_ret
          exact ⟨rfl, HG.out⟩
        · have hz : (ti == 0) = false := by simpa using hti0
          by_cases htn : t < 0
          · clear htab hmx herr hb ib lb he hc hI h12
            obtain ⟨n, hn⟩ : ∃ n, n = l.length := ⟨_, rfl⟩
            rw [← hn] at h5 hlc hlm hll ⊢
            clear hn
            intro w hg
            have HB := Lib.hid (Box4.new w f x st ti 24)
            have HG := Lib.hid (hg.alloc (oGl f x st ti))
            clear hg
            obtain ⟨k0, k1, k2, k3⟩ := id HB.out
            go_enter Tryz.func10, Tryz.ntmps10
            have F2 := F.out (w.alloc (oGl f x st ti))
            rw [World.size_alloc] at F2
            have F2 := Lib.hid F2
            go_wp2_with fail
            refine F2.out.mono ?_
            clear F2
            rintro e w1 ⟨rfl, hg⟩
            have hB := HB.out.gr hg
            replace HG := Lib.hid (Gr.trans HG.out hg)
            clear hg HB k0 k1 k2 k3
            have HB := Lib.hid hB
            obtain ⟨k0, k1, k2, k3⟩ := hB
            go_wp2_with fail
            refine (K.out _ HG.out).mono ?_
            rintro e w1 ⟨rfl, hg⟩
            have hB := HB.out.gr hg
            replace HG := Lib.hid (Gr.trans HG.out hg)
            clear hg HB k0 k1 k2 k3
            have HB := Lib.hid hB
            obtain ⟨k0, k1, k2, k3⟩ := hB
            go_wp2_with fail
            refine (T.out _ HG.out).mono ?_
            rintro e w1 ⟨rfl, hg⟩
            replace HG := Lib.hid (Gr.trans HG.out hg); clear hg
            go_wp2
            go_ret
            exact ⟨rfl, HG.out⟩
          · by_cases htm : 10000000 < t
            · clear htab hmx herr hb ib lb he hc hI h12
              obtain ⟨n, hn⟩ : ∃ n, n = l.length := ⟨_, rfl⟩
              rw [← hn] at h5 hlc hlm hll ⊢
              clear hn
              intro w hg
              have HB := Lib.hid (Box4.new w f x st ti 24)
              have HG := Lib.hid (hg.alloc (oGl f x st ti))
              clear hg
              obtain ⟨k0, k1, k2, k3⟩ := id HB.out
              go_enter Tryz.func10, Tryz.ntmps10
              have F2 := F.out (w.alloc (oGl f x st ti))
              rw [World.size_alloc] at F2
              have F2 := Lib.hid F2
              go_wp2_with fail
              refine F2.out.mono ?_
              clear F2
              rintro e w1 ⟨rfl, hg⟩
              have hB := HB.out.gr hg
              replace HG := Lib.hid (Gr.trans HG.out hg)
              clear hg HB k0 k1 k2 k3
              have HB := Lib.hid hB
              obtain ⟨k0, k1, k2, k3⟩ := hB
              go_wp2_with fail
              refine (K.out _ HG.out).mono ?_
              rintro e w1 ⟨rfl, hg⟩
              have hB := HB.out.gr hg
              replace HG := Lib.hid (Gr.trans HG.out hg)
              clear hg HB k0 k1 k2 k3
              have HB := Lib.hid hB
              obtain ⟨k0, k1, k2, k3⟩ := hB
              go_wp2_with fail
              refine (T.out _ HG.out).mono ?_
              rintro e w1 ⟨rfl, hg⟩
              replace HG := Lib.hid (Gr.trans HG.out hg); clear hg
              go_wp2
              go_ret
              exact ⟨rfl, HG.out⟩
            · have HC := Lib.hid hc
              have HI := Lib.hid hI
              have HTAB := Lib.hid htab
              have HMX := Lib.hid hmx
              have HERR := Lib.hid herr
              have H12 := Lib.hid h12
              clear hc hI htab hmx herr hb ib lb he h12
              obtain ⟨n, hn⟩ : ∃ n, n = l.length := ⟨_, rfl⟩
              have HN := Lib.hid hn
              rw [← hn] at h5 hlc hlm hll ⊢
              clear hn
              intro w hg
              have HB := Lib.hid (Box4.new w f x st ti 24)
              have HG := Lib.hid (hg.alloc (oGl f x st ti))
              clear hg
              obtain ⟨k0, k1, k2, k3⟩ := id HB.out
              go_enter Tryz.func10, Tryz.ntmps10
              have F2 := F.out (w.alloc (oGl f x st ti))
              rw [World.size_alloc] at F2
              have F2 := Lib.hid F2
              go_wp2_with fail
              refine F2.out.mono ?_
              clear F2
              rintro e w1 ⟨rfl, hg⟩
              have hB := HB.out.gr hg
              replace HG := Lib.hid (Gr.trans HG.out hg)
              clear hg HB k0 k1 k2 k3
              have HB := Lib.hid hB
              obtain ⟨k0, k1, k2, k3⟩ := hB
              go_wp2_with fail
              refine (K.out _ HG.out).mono ?_
              rintro e w1 ⟨rfl, hg⟩
              have hB := HB.out.gr hg
              replace HG := Lib.hid (Gr.trans HG.out hg)
              clear hg HB k0 k1 k2 k3
              have HB := Lib.hid hB
              obtain ⟨k0, k1, k2, k3⟩ := hB
              go_wp2
              go_loopw [7, 9, 50] (fun m _ i wr => ∃ (k : Nat) (mm : Int), i = .int .i64 k ∧ k ≤ n ∧ m = .int .i64 mm ∧ -9223372036854775808 ≤ mm ∧ mm ≤ 10000000 ∧ Hid (Gr w0 wr) ∧ Hid (Box4 wr w.heap.size f x st ti) ∧ Hid (mm ≤ ti ∧ ∀ j (hj : j < l.length), j < k → mm ≤ l[j].2.2)) (fun _ _ i _ => n - (intOf i).toNat)
              case atStart => exact ⟨0, ti, rfl, Nat.zero_le _, rfl, by omega, by omega, HG.out, HB.out, Int.le_refl _, fun j hj h => absurd h (by omega)⟩
              case round =>
                clear HG HB k0 k1 k2 k3
                obtain ⟨k, mm, rfl, hk, rfl, mm0, mm1, HG, HB, HM⟩ := hrel
                by_cases hlt : k < n
                · have hkl : k < l.length := by rw [← HN.out]; exact hlt
                  obtain ⟨bx, ox, rfl, hat⟩ := HC.out k hkl
                  obtain ⟨x0', x1', x2'⟩ := hat.gr HG.out
                  have hq := (HI.out _ (List.getElem_mem hkl)).2.2
                  have HK := Lib.hid (fun (v : Int) (h1 : v ≤ mm) (h2 : v ≤ l[k].2.2) => (⟨Int.le_trans h1 HM.out.1, fun j hj h => by
                    by_cases hjk : j = k
                    · subst hjk; exact h2
                    · exact Int.le_trans h1 (HM.out.2 j hj (by omega))⟩ : v ≤ ti ∧ ∀ j (hj : j < l.length), j < k + 1 → v ≤ l[j].2.2))
                  generalize l[k] = q at *
                  obtain ⟨qt, qy, qd⟩ := q
                  simp only at x0' x1' x2' hq HK
                  obtain ⟨q0, q1⟩ := hq
                  have hbl : bx < wr.heap.size := cell_lt x0'
                  have hB := Lib.hid (HB.out.gr ((Gr.refl wr).alloc (.cells #[.int .i64 qt, .int .i64 qy, .int .i64 qd] 77)))
                  clear HM
                  by_cases hmin : qd < mm
                  · have hmin2 : min mm qd = qd := by omega
                    go_wp2
                    go_roundw
                    case rel => exact ⟨k + 1, qd, by go_num, by omega, by first | rfl | (rw [hmin2]), by omega, by omega, HG.out.alloc _, hB.out, HK.out qd (by omega) (Int.le_refl _)⟩
                    case measure => simp [intOf]; omega
                  · have hmin2 : min mm qd = mm := by omega
                    go_wp2
                    go_roundw
                    case rel => exact ⟨k + 1, mm, by go_num, by omega, by first | rfl | (rw [hmin2]), by omega, by omega, HG.out.alloc _, hB.out, HK.out mm (Int.le_refl _) (by omega)⟩
                    case measure => simp [intOf]; omega
                · have hkn : k = n := by omega
                  subst hkn
                  obtain ⟨k0, k1, k2, k3⟩ := id HB.out
                  by_cases hm1 : mm < 1
                  · clear HB k0 k1 k2 k3
                    go_wp2_with fail
                    refine (T.out _ HG.out).mono ?_
                    rintro e w1 ⟨rfl, hg⟩
                    replace HG := Lib.hid (Gr.trans HG.out hg); clear hg
                    go_wp2
                    go_ret
                    exact ⟨rfl, HG.out⟩
                  · have TC := fun (w : World) (hw : Gr w0 w) => top_tryChain HTAB.out HMX.out HERR.out hgG.out HE.out (by have := H12.out; show f.size ≤ 200; omega) (cap := cap) (by have := HN.out; omega) HI.out w hw (HC.out.gr hw)
                    rw [← HN.out] at TC
                    have TC := Lib.hid TC
                    go_wp2_with fail
                    refine (TC.out _ HG.out).mono ?_
                    rintro e w1 ⟨hor, hg1⟩
                    have HG1 := Lib.hid (Gr.trans HG.out hg1)
                    clear hg1 HG HB k0 k1 k2 k3 TC
                    rcases hor with rfl | ⟨bb, ch, cp, rfl, -, hrd, hcc, hcpm, hmade⟩
                    · go_wp2_with fail
                      refine (T.out _ HG1.out).mono ?_
                      rintro e w1 ⟨rfl, hg⟩
                      replace HG := Lib.hid (Gr.trans HG1.out hg); clear hg
                      go_wp2
                      go_ret
                      exact ⟨rfl, HG.out⟩
                    · obtain ⟨A, B, lo, hi, di, ov, c, hc0, C1, C2, C3, C4, C5, C6, C7, C8, C9⟩ := cont_calls (htab_gr HTAB.out HG1.out) (HMX.out.gr HG1.out) (HERR.out.gr HG1.out) (t := t) (m := mm) (by have := HN.out; omega) hmade hrd hcc hcpm (by omega) (by omega) (by omega) mm1 HM.out.1 (fun j hj => HM.out.2 j hj (by have := HN.out; omega))
                      have C1 := Lib.hid C1
                      have C2 := Lib.hid C2
                      have C3 := Lib.hid C3
                      have C4 := Lib.hid C4
                      have C5 := Lib.hid C5
                      have C6 := Lib.hid C6
                      have C7 := Lib.hid C7
                      have C8 := Lib.hid C8
                      have C9 := Lib.hid C9
                      have T1 := Lib.hid (T.out.up HG1.out)
                      have HGa := Lib.hid (Gr.refl w1)
                      have hcle : (c ≤ 0) := hc0
                      generalize ch.length = m at *
                      clear hmade hrd HM
                      go_wp2_with fail
                      refine (C1.out _ HGa.out).mono ?_
                      rintro e w2 ⟨rfl, hg⟩
                      replace HGa := Lib.hid (Gr.trans HGa.out hg); clear hg
                      go_wp2_with fail
                      refine (C2.out _ HGa.out).mono ?_
                      rintro e w2 ⟨rfl, hg⟩
                      replace HGa := Lib.hid (Gr.trans HGa.out hg); clear hg
                      go_wp2_with fail
                      refine (C3.out _ HGa.out).mono ?_
                      rintro e w2 ⟨rfl, hg⟩
                      replace HGa := Lib.hid (Gr.trans HGa.out hg); clear hg
                      go_wp2_with fail
                      refine (C4.out _ HGa.out).mono ?_
                      rintro e w2 ⟨rfl, hg⟩
                      replace HGa := Lib.hid (Gr.trans HGa.out hg); clear hg
                      go_wp2_with fail
                      refine (C5.out _ HGa.out).mono ?_
                      rintro e w2 ⟨rfl, hg⟩
                      replace HGa := Lib.hid (Gr.trans HGa.out hg); clear hg
                      go_wp2_with fail
                      refine (C6.out _ HGa.out).mono ?_
                      rintro e w2 ⟨rfl, hg⟩
                      replace HGa := Lib.hid (Gr.trans HGa.out hg); clear hg
                      go_wp2_with fail
                      refine (C7.out _ HGa.out).mono ?_
                      rintro e w2 ⟨rfl, hg⟩
                      replace HGa := Lib.hid (Gr.trans HGa.out hg); clear hg
                      go_wp2_with fail
                      refine (C8.out _ HGa.out).mono ?_
                      rintro e w2 ⟨rfl, hg⟩
                      replace HGa := Lib.hid (Gr.trans HGa.out hg); clear hg
                      go_wp2_with fail
                      refine (C9.out _ HGa.out).mono ?_
                      rintro e w2 ⟨rfl, hg⟩
                      replace HGa := Lib.hid (Gr.trans HGa.out hg); clear hg
                      go_wp2_with fail
                      refine (T1.out _ HGa.out).mono ?_
                      rintro e w2 ⟨rfl, hg⟩
                      replace HGa := Lib.hid (Gr.trans HGa.out hg); clear hg
                      go_wp2
                      go_ret
                      exact ⟨rfl, Gr.trans HG1.out HGa.out⟩
    · have hne : (glE f x st ti != 0) = true := by simpa using he
      have K := Lib.hid K
      clear htab hmx herr he hc hI h12
      generalize glE f x st ti = c at *
      generalize l.length = n at *
      intro w hg
      have HB := Lib.hid (Box4.new w f x st ti 24)
      have HG := Lib.hid (hg.alloc (oGl f x st ti))
      clear hg
      obtain ⟨k0, k1, k2, k3⟩ := id HB.out
      go_enter Tryz.func10, Tryz.ntmps10
      have F2 := F.out (w.alloc (oGl f x st ti))
      rw [World.size_alloc] at F2
      have F2 := Lib.hid F2
      go_wp2_with fail
      refine F2.out.mono ?_
      clear F2
      rintro e w1 ⟨rfl, hg⟩
      have hB := HB.out.gr hg
      replace HG := Lib.hid (Gr.trans HG.out hg)
      clear hg HB k0 k1 k2 k3
      have HB := Lib.hid hB
      obtain ⟨k0, k1, k2, k3⟩ := hB
      go_wp2_with fail
      refine (K.out _ HG.out).mono ?_
      rintro e w1 ⟨rfl, hg⟩
      have hB := HB.out.gr hg
      replace HG := Lib.hid (Gr.trans HG.out hg)
      clear hg HB k0 k1 k2 k3
      have HB := Lib.hid hB
      obtain ⟨k0, k1, k2, k3⟩ := hB
      clear HB k0 k1 k2 k3
      go_wp2_with fail
      refine (T.out _ HG.out).mono ?_
      rintro e w1 ⟨rfl, hg⟩
      replace HG := Lib.hid (Gr.trans HG.out hg); clear hg
      go_wp2
      go_ret
      exact ⟨rfl, HG.out⟩
  · rw [decide_eq_false h12] at F
    clear htab hmx herr hc hI h12
    generalize l.length = n at *
    intro w hg
    have HB := Lib.hid (Box4.new w f x st ti 24)
    have HG := Lib.hid (hg.alloc (oGl f x st ti))
    clear hg
    obtain ⟨k0, k1, k2, k3⟩ := id HB.out
    go_enter Tryz.func10, Tryz.ntmps10
    have F2 := F.out (w.alloc (oGl f x st ti))
    rw [World.size_alloc] at F2
    have F2 := Lib.hid F2
    go_wp2_with fail
    refine F2.out.mono ?_
    clear F2
    rintro e w1 ⟨rfl, hg⟩
    have hB := HB.out.gr hg
    replace HG := Lib.hid (Gr.trans HG.out hg)
    clear hg HB k0 k1 k2 k3
    have HB := Lib.hid hB
    obtain ⟨k0, k1, k2, k3⟩ := hB
    clear HB k0 k1 k2 k3
    go_wp2_with fail
    refine (T.out _ HG.out).mono ?_
    rintro e w1 ⟨rfl, hg⟩
    replace HG := Lib.hid (Gr.trans HG.out hg); clear hg
    go_wp2
    go_ret
    exact ⟨rfl, HG.out⟩
end
end Go.Proofs.YtffifpinnhaloaaGreatDoor
