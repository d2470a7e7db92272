/- Value of chains, both sides. -/
import Derived.Test.YtffifpinnhaloaaGreatDoorGlD
import Derived.Test.YtffifpinnhaloaaGreatDoorGlN
import Derived.Test.YtffifpinnhaloaaGreatDoorRange3
set_option linter.unusedVariables false
set_option linter.unusedSimpArgs false
namespace Go.Proofs.YtffifpinnhaloaaGreatDoor
open Go.RowKit Go.Shelf
open Z
attribute [local go_sem] Oper.semAt_some

theorem valE_ne {l : List Gl} {t : Int} (h : chainE l ≠ 0) : valE l t = (⟨#[]⟩, chainE l) := by unfold valE; rw [if_neg h]
theorem valE_nil (t : Int) : valE [] t = (⟨#[]⟩, 12) := by unfold valE; rw [if_pos (chainE_ok (by simp) (by simp)), if_pos rfl]
theorem valE_at {l : List Gl} {t : Int} {k : Nat} (h : chainE l = 0) (hk : IsAt l t k) : valE l t = ((l[k]'hk.1).at t, 0) := by
  unfold valE
  rw [if_pos h, if_neg (fun e => by have := hk.1; rw [e] at this; simp at this), valL_at hk]
theorem Fits.sz {l : List Gl} (h : Fits l) (h0 : chainE l = 0) : ∀ g ∈ l, g.f.size ≤ 1400 := h.resolve_left (by have := (chainE_zero h0).1; omega)
section
variable {w0 : World}
set_option maxHeartbeats 4000000 in
set_option maxRecDepth 100000 in
theorem ret3_Value {a : Option Addr} {l : List Gl} {cap : Nat} {t : Int} (hc : RdG w0 a l) (hI : ∀ g ∈ l, g.isG) (hf : Fits l) (hlm : l.length ≤ maxLen) (ht : isJ t) : Ret w0 28 #[.slice a l.length cap, .int .i64 t] (vSI (valE l t)) := by
  have C := ret3_Chain (cap := cap) hc hI hf hlm
  by_cases h : chainE l = 0
  · rw [h] at C
    have C := Lib.hid C
    have hz := chainE_zero h
    have hsz := hf.sz h
    by_cases hnil : l = []
    · subst hnil
      rw [valE_nil]
      clear hc hI hf hlm hz hsz h ht
      unfold vSI
      intro w hg
      have HG := Lib.hid hg; clear hg
      go_enter Tryz.func28, Tryz.ntmps28
      go_wp2_with fail
      refine (C.out _ HG.out).mono ?_
      rintro e w1 ⟨rfl, hg⟩
      replace HG := Lib.hid hg; clear hg
      go_wp2
      go_ret2
      exact ⟨rfl, HG.out⟩
    · have hpos : 0 < l.length := List.length_pos_iff.2 hnil
      have HC := Lib.hid hc
      have HV := Lib.hid (fun (k : Nat) (hk : k < l.length) (h1 : ∀ j (hj : j + 1 < l.length), j < k → (l[j + 1]).st ≤ t) (h2 : ∀ hk : k + 1 < l.length, t < (l[k + 1]).st) => (valE_at h ⟨hk, h1, h2⟩ : valE l t = ((l[k]).at t, 0)))
      have HO := Lib.hid (fun (k : Nat) (hk : k < l.length) => by
        have he := (step_zero hk (hz.2 k hk)).1
        obtain ⟨q, e1, e2, e3, -, x0, x1, st0, st1, ti0, ti1⟩ := Gl.err_zero he (by have := hsz _ (List.getElem_mem hk); omega)
        have := ret3_Of (w0 := w0) (t := t) e3 (by have := hsz _ (List.getElem_mem hk); omega) x0 x1 st0 st1 ti0 ti1 ht
        rw [← e1, ← e2] at this
        exact this)
      obtain ⟨r, hr⟩ : ∃ r, valE l t = r := ⟨_, rfl⟩
      rw [hr]
      rw [hr] at HV
      obtain ⟨n, hn⟩ : ∃ n, n = l.length := ⟨_, rfl⟩
      have HN := Lib.hid hn
      rw [← hn] at C ⊢
      have hn256 : n ≤ 256 := by have := hz.1; omega
      have hpos' : 0 < n := by omega
      have hn0 : ((n : Int) == 0) = false := by simp; omega
      obtain ⟨t0, t1⟩ := ht
      clear hc hI hf hlm hz hsz h hnil hn hr hpos
      unfold vSI
      intro w hg
      have HG := Lib.hid hg; clear hg
      go_enter Tryz.func28, Tryz.ntmps28
      go_wp2_with fail
      refine (C.out _ HG.out).mono ?_
      rintro e w1 ⟨rfl, hg⟩
      replace HG := Lib.hid hg; clear hg
      go_wp2
      go_loopw [7] (fun i wr => ∃ k : Nat, i = .int .i64 k ∧ k < n ∧ Hid (Gr w0 wr) ∧ Hid (∀ j (hj : j + 1 < l.length), j < k → (l[j + 1]).st ≤ t)) (fun i _ => n - (intOf i).toNat)
      case atStart => exact ⟨0, rfl, hpos', HG.out, fun j hj h => absurd h (by omega)⟩
      case round =>
        clear HG
        obtain ⟨k, rfl, hk, HG, HK⟩ := hrel
        by_cases hlt : k + 1 < n
        · have hkl : k + 1 < l.length := by rw [← HN.out]; exact hlt
          obtain ⟨b, o, hb, hat⟩ := HC.out (k + 1) hkl
          generalize hgk : l[k + 1] = g at *
          obtain ⟨s, x, st, ti⟩ := g
          by_cases hst : st ≤ t
          · have HT := Lib.hid (show (l[k + 1]).st ≤ t by rw [hgk]; exact hst)
            subst hb
            obtain ⟨c0, c1, c2, c3⟩ := hat.gr HG.out
            simp only [Gl.f, Gl.x, Gl.st, Gl.ti] at c0 c1 c2 c3
            clear hat hgk
            go_wp2
            go_roundw
            case rel =>
              refine ⟨k + 1, by go_num, by omega, HG.out, fun j hj h => ?_⟩
              by_cases hjk : j = k
              · subst hjk; exact HT.out
              · exact HK.out j hj (by omega)
            case measure => simp [intOf]; omega
          · have hkl' : k < l.length := Nat.lt_of_succ_lt hkl
            have hv := HV.out k hkl' HK.out (fun hk' => by rw [hgk]; simp only [Gl.st]; omega)
            subst hb
            obtain ⟨c0, c1, c2, c3⟩ := hat.gr HG.out
            simp only [Gl.f, Gl.x, Gl.st, Gl.ti] at c0 c1 c2 c3
            clear hat
            obtain ⟨b', o', hb', hdt⟩ := HC.out k hkl'
            obtain ⟨rfl, rfl⟩ : b = b' ∧ o = o' := by simpa using hb'
            have O := HO.out k hkl'
            generalize hgk2 : l[k] = g at *
            obtain ⟨ps, px, pst, pti⟩ := g
            simp only [Gl.f, Gl.x, Gl.st, Gl.ti, Gl.at] at hv O
            obtain ⟨d0, d1, d2, d3⟩ := hdt.gr HG.out
            simp only [Gl.f, Gl.x, Gl.st, Gl.ti] at d0 d1 d2 d3
            have O := Lib.hid O
            generalize RT (ofG (rv ps) px pst pti t) = v at *
            have HV2 := Lib.hid hv
            clear hv
            clear hdt
            go_wp2_with fail
            refine (O.out _ HG.out).mono ?_
            rintro e w1 ⟨rfl, hg⟩
            replace HG := Lib.hid hg; clear hg
            go_wp2
            go_ret2
            exact ⟨by have e := HV2.out; subst e; rfl, HG.out⟩
        · have hkn : k + 1 = n := by omega
          have hkl : k < l.length := by have := HN.out; omega
          have hv := HV.out k hkl HK.out (fun hk' => by have := HN.out; omega)
          obtain ⟨b, o, hb, hdt⟩ := HC.out k hkl
          have O := HO.out k hkl
          generalize hgk : l[k] = g at *
          obtain ⟨ps, px, pst, pti⟩ := g
          simp only [Gl.f, Gl.x, Gl.st, Gl.ti, Gl.at] at hv O
          subst hb
          obtain ⟨d0, d1, d2, d3⟩ := hdt.gr HG.out
          simp only [Gl.f, Gl.x, Gl.st, Gl.ti] at d0 d1 d2 d3
          have O := Lib.hid O
          generalize RT (ofG (rv ps) px pst pti t) = v at *
          have HV2 := Lib.hid hv
          clear hv
          clear hdt hgk
          go_wp2_with fail
          refine (O.out _ HG.out).mono ?_
          rintro e w1 ⟨rfl, hg⟩
          replace HG := Lib.hid hg; clear hg
          go_wp2
          go_ret2
          exact ⟨by have e := HV2.out; subst e; rfl, HG.out⟩
  · rw [valE_ne h]
    have hne : (chainE l != 0) = true := by simpa using h
    clear h hc hI hf hlm ht
    have C := Lib.hid C
    unfold vSI
    generalize chainE l = c at *
    intro w hg
    have HG := Lib.hid hg; clear hg
    go_enter Tryz.func28, Tryz.ntmps28
    go_wp2_with fail
    refine (C.out _ HG.out).mono ?_
    rintro e w1 ⟨rfl, hg⟩
    replace HG := Lib.hid hg; clear hg
    go_wp2
    go_ret2
    exact ⟨rfl, HG.out⟩
end
end Go.Proofs.YtffifpinnhaloaaGreatDoor
