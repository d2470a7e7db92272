/- Law 3: GlideBends. -/
import Derived.Test.YtflkgkchoagphaaGreatDoorLaw03ab
import Derived.Test.YtflkgkchoagphaaGreatDoorGlU
import Derived.Test.YtflkgkchoagphaaGreatDoorGlV
import Derived.Test.YtflkgkchoagphaaGreatDoorGlCP
set_option linter.unusedVariables false
set_option linter.unusedSimpArgs false
namespace Go.Proofs.YtflkgkchoagphaaGreatDoor
open Go.RowKit Go.Shelf Go.Deep
open Z

section
variable {w0 : World} (htab : Tab w0) (hmx : Mx w0) (herr : ErrR w0)
include htab hmx herr
set_option maxHeartbeats 4000000 in
set_option maxRecDepth 100000 in
theorem l3_GlideBends {g : Gl} (hgs : g.f.size ≤ maxLen) (hg : g.isG) {a : Option Addr} {l : List T3} {cap : Nat} (hc : RdT w0 a l) (hI : ∀ q ∈ l, isT q) (hlc : l.length ≤ cap) (hcm : cap ≤ maxLen) {t : Int} (ht : isJ t) : Ret w0 9 #[vG4 g, .slice a l.length cap, .int .i64 t] (.bool true) := by
  have AW := Lib.hid (RetG.of4 (w0 := w0) fun w1 h => l3_awake (htab_gr htab h) (hmx.gr h) (herr.gr h))
  have FW := Lib.hid (fun (g : Gl) (w : World) (hs : g.f.size ≤ maxLen) => few_new1 (g := g) (w := w) 24 hs)
  have hlm : l.length ≤ maxLen := Nat.le_trans hlc hcm
  clear hlc hcm
  unfold maxLen at hlm
  by_cases hs : 120 < g.f.size
  · clear htab hmx herr hc hI
    have F1 := Lib.hid (fun w => FW.out g w hgs)
    rw [decide_eq_false (by omega)] at F1
    obtain ⟨f, x, st, ti⟩ := g
    simp only [Gl.f, Gl.x, Gl.st, Gl.ti] at F1
    clear FW hgs hg hs
    generalize l.length = n at *
    intro w hw
    have F1' := F1.out (w.alloc (oGl f x st ti))
    rw [World.size_alloc] at F1'
    have F1' := Lib.hid F1'
    have HG := Lib.hid hw; clear hw F1
    have HGA := Lib.hid ((Gr.refl w).alloc (oGl f x st ti))
    obtain ⟨k0, k1, k2, k3⟩ := Box4.new w f x st ti 24
    go_enter Tryz.func9, Tryz.ntmps9
    go_wp2_with fail
    refine F1'.out.mono ?_
    rintro e w1 ⟨rfl, hg1⟩
    replace HG := Lib.hid (Gr.trans HG.out (Gr.trans HGA.out hg1)); clear hg1 F1'
    go_wp2_with fail
    refine (AW.out _ HG.out).mono ?_
    rintro e w2 ⟨rfl, hg1⟩
    replace HG := Lib.hid (Gr.trans HG.out hg1); clear hg1
    go_wp2
    go_ret
    exact ⟨rfl, HG.out⟩
  · have hs1 : g.f.size ≤ 120 := by omega
    have F1 := Lib.hid (fun w => FW.out g w hgs)
    rw [decide_eq_true hs1] at F1
    have CK := Lib.hid (RetG.of4 (w0 := w0) fun w1 _ => ret3_Check (w0 := w1) (s := g.f) (by omega) hg.1 hg.2.1 hg.2.2)
    by_cases he : g.err = 0
    · have CK1 : RetG w0 19 #[vG4 g] (.int .i64 0) := CK.out.cast (by rw [show glE g.f g.x g.st g.ti = 0 from he])
      have CK1 := Lib.hid CK1
      by_cases hl : 5 < l.length
      · clear htab hmx herr hc hI
        obtain ⟨f, x, st, ti⟩ := g
        simp only [Gl.f, Gl.x, Gl.st, Gl.ti] at F1
        clear FW hgs hg hs hs1 CK he
        generalize l.length = n at *
        intro w hw
        have F1' := F1.out (w.alloc (oGl f x st ti))
        rw [World.size_alloc] at F1'
        have F1' := Lib.hid F1'
        have HG := Lib.hid hw; clear hw F1
        have HGA := Lib.hid ((Gr.refl w).alloc (oGl f x st ti))
        have HB := Lib.hid (Box4.new w f x st ti 24)
        obtain ⟨k0, k1, k2, k3⟩ := Box4.new w f x st ti 24
        go_enter Tryz.func9, Tryz.ntmps9
        go_wp2_with fail
        refine F1'.out.mono ?_
        rintro e w1 ⟨rfl, hg1⟩
        clear k0 k1 k2 k3
        obtain ⟨k0, k1, k2, k3⟩ := HB.out.gr hg1
        replace HG := Lib.hid (Gr.trans HG.out (Gr.trans HGA.out hg1)); clear hg1 F1'
        go_wp2_with fail
        refine (CK1.out _ HG.out).mono ?_
        rintro e w2 ⟨rfl, hg1⟩
        replace HG := Lib.hid (Gr.trans HG.out hg1); clear hg1
        go_wp2_with fail
        refine (AW.out _ HG.out).mono ?_
        rintro e w3 ⟨rfl, hg1⟩
        replace HG := Lib.hid (Gr.trans HG.out hg1); clear hg1
        go_wp2
        go_ret
        exact ⟨rfl, HG.out⟩
      · have hl5 : l.length ≤ 5 := by omega
        have HFIN : Hid (∀ (ch : List Gl), Part g l l.length ch → ∃ (v : ByteArray) (ks : List Kn), ks.length ≤ 600 ∧
            (∀ j (hj : j < ks.length) (h1 : 1 ≤ j), (ks[j - 1]'(by omega)).1 ≤ (ks[j]).1 ∧ ks[j] ≠ ks[j - 1]'(by omega)) ∧
            (∀ w, Gr w0 w → ∀ a' c', RdG w a' ch → ch.length ≤ c' → c' ≤ maxLen → Calls Tryz.prog 27 #[.slice a' ch.length c', .int .i64 t] w fun e w' => e = .returned (.tuple #[.string v, .int .i64 0]) ∧ Gr w w') ∧
            (∀ w, Gr w0 w → ∀ a' c', RdG w a' ch → ch.length ≤ c' → c' ≤ maxLen → Calls Tryz.prog 29 #[.slice a' ch.length c'] w fun e w' => (∃ g1 cp, e = .returned (.tuple #[.slice (some ⟨g1, 0, none⟩) ks.length cp, .int .i64 0]) ∧ RdK w' (some ⟨g1, 0, none⟩) ks ∧ ks.length ≤ cp ∧ cp ≤ maxLen) ∧ Gr w w') ∧
            (∀ w, Gr w0 w → ∀ a' c', RdK w a' ks → ks.length ≤ c' → c' ≤ maxLen → Calls Tryz.prog 36 #[.slice a' ks.length c', .int .i64 t] w fun e w' => e = .returned (.tuple #[.string v, .int .i64 0]) ∧ Gr w w')) := Lib.hid fun ch hP => by
          have hz := hP.2.2.1
          have hne : ch ≠ [] := fun e => by have := hP.1; rw [e] at this; simp at this
          obtain ⟨hr, hfk⟩ := read_chain hz hne t
          have hcg : ∀ x ∈ ch, x.isG := fun x hx => (hP.2.2.2.1 x hx).2
          have hcf : Fits ch := .inr fun x hx => by have := (hP.2.2.2.1 x hx).1; omega
          have hkf : FitsK (knL ch) := hfk fun x hx => by have := (hP.2.2.2.1 x hx).1; omega
          have hve : valE ch t = (valL ch t, 0) := by unfold valE; rw [if_pos hz, if_neg hne]
          refine ⟨valL ch t, knL ch, ?_, fun j hj h1 => ?_, fun w hw a' c' h1 h2 h3 => ?_, fun w hw a' c' h1 h2 h3 => ?_, fun w hw a' c' h1 h2 h3 => ?_⟩
          · have h1 := compactL_len (knAll ch ch.length)
            have h2 := knAll_len (l := ch) (k := ch.length) (Nat.le_refl _)
            have h3 := (chainE_zero hz).1
            unfold knL; omega
          · obtain ⟨j, rfl⟩ : ∃ i, j = i + 1 := ⟨j - 1, by omega⟩
            have := knL_order hz hj
            exact ⟨this.1, fun e => this.2 e.symm⟩
          · have := ret_GValue (htab_gr htab hw) (hmx.gr hw) (herr.gr hw) h1 hcg hcf h2 h3 ht w (Gr.refl w)
            rw [hve] at this; exact this
          · refine (ret_GKnots (htab_gr htab hw) (hmx.gr hw) (herr.gr hw) h1 hcg hcf h2 h3 w (Gr.refl w)).mono ?_
            rintro e w1 ⟨hg1, ⟨h, -⟩ | ⟨-, g1, cp, rfl, hr1, hcp, hcm⟩⟩
            · exact absurd hz h
            · exact ⟨⟨g1, cp, rfl, hr1, hcp, hcm⟩, hg1⟩
          · have := ret_GRead (htab_gr htab hw) (hmx.gr hw) (herr.gr hw) h1 hkf h2 h3 ht w (Gr.refl w)
            rw [hr] at this; exact this
        have GO := Lib.hid (fun (p : Gl) (hp : p.f.size ≤ 120) (q : T3) (hq : isT q) => RetG.of4 (w0 := w0) fun w1 h => ret_GGo (htab_gr htab h) (hmx.gr h) (herr.gr h) (s := p.f) (by omega) (x := p.x) (st := p.st) (ti := p.ti) (t := q.1) (y := q.2.1) (d := q.2.2) hq.1)
        have HP := Lib.hid (Part.start l he hs1 hg)
        have HC := Lib.hid hc
        have HI := Lib.hid hI
        obtain ⟨i0, hi, hz0, hz1, hz2⟩ := info_parts Tryz.infoGlide
        clear htab hmx herr hc hI hs CK he hg hlm hgs hl
        obtain ⟨n, hn⟩ : ∃ n, n = l.length := ⟨_, rfl⟩
        have HN := Lib.hid hn
        rw [← hn] at hl5 HFIN ⊢
        clear hn
        obtain ⟨f, x, st, ti⟩ := g
        simp only [Gl.f, Gl.x, Gl.st, Gl.ti] at F1 hs1
        intro w hw
        have F1' := F1.out (w.alloc (oGl f x st ti))
        rw [World.size_alloc] at F1'
        have F1' := Lib.hid F1'
        have HW := Lib.hid hw; clear hw F1
        have HGA := Lib.hid ((Gr.refl w).alloc (oGl f x st ti))
        have HB := Lib.hid (Box4.new w f x st ti 24)
        obtain ⟨k0, k1, k2, k3⟩ := Box4.new w f x st ti 24
        go_enter Tryz.func9, Tryz.ntmps9
        go_wp2_with fail
        refine F1'.out.mono ?_
        rintro e w1 ⟨rfl, hg1⟩
        clear k0 k1 k2 k3
        have HB1 := Lib.hid (HB.out.gr hg1)
        have HG1 := Lib.hid (Gr.trans HGA.out hg1)
        clear hg1 HB HGA
        obtain ⟨k0, k1, k2, k3⟩ := HB1.out
        go_wp2_with fail
        refine (CK1.out _ (Gr.trans HW.out HG1.out)).mono ?_
        rintro e w2 ⟨rfl, hg1⟩
        clear k0 k1 k2 k3
        obtain ⟨k0, k1, k2, k3⟩ := HB1.out.gr hg1
        replace HG1 := Lib.hid (Gr.trans HG1.out hg1)
        clear hg1 HB1 CK1
        have HO : Hid (OwnG w.heap.size (w2.alloc (oGl f x st ti)) (.slice (some ⟨w2.heap.size, 0, none⟩) (0 + 1) 1) [(f, x, st, ti)]) := Lib.hid (ownG_one w2 (f, x, st, ti) w.heap.size (by have := HG1.out.size; omega))
        have HG2 := Lib.hid (HG1.out.alloc (oGl f x st ti))
        go_wp2
        clear k0 k1 k2 k3
        go_loopw [7, 9, 10, 11, 12, 39] (fun v _ _ _ _ i wr => ∃ (k : Nat) (ch : List Gl) (b cp : Nat), i = .int .i64 k ∧ k ≤ n ∧ v = .slice (some ⟨b, 0, none⟩) (k + 1) cp ∧ Hid (OwnG w.heap.size wr (.slice (some ⟨b, 0, none⟩) (k + 1) cp) ch) ∧ Hid (Gr w wr) ∧ Hid (Part (f, x, st, ti) l k ch)) (fun _ _ _ _ _ i _ => n - (intOf i).toNat)
        case atStart => exact ⟨0, [(f, x, st, ti)], _, 1, rfl, Nat.zero_le _, rfl, HO.out, HG2.out, HP.out⟩
        case round =>
          obtain ⟨k, ch, b, cp, rfl, hk, rfl, HO, HG, HPk⟩ := hrel
          clear HG1 HG2 HP
          by_cases hlt : k < n
          · have hkl : k < l.length := by rw [← HN.out]; exact hlt
            obtain ⟨r, p, rfl, hrl, hpe, hps, hpg⟩ := HPk.out.last
            obtain ⟨bx, ox, rfl, hat⟩ := HC.out k hkl
            have hq := HI.out _ (List.getElem_mem hkl)
            generalize hgq : l[k] = q at *
            have HQ := Lib.hid hgq
            have G1 := GO.out p hps q hq
            obtain ⟨tt, y, d⟩ := q
            have hpc := HO.out.at (k := k) (p := p) (by rw [List.getElem?_append_right (by omega)]; simp [hrl])
            have HT : Hid (okL (tt, 10000000) = true → okL (y, 65535) = true → okL (d, 10000000) = true → RetG w0 24 #[vG4 p, .int .i64 tt, .int .i64 y, .int .i64 d] (.tuple #[vGl (p.at tt) y tt d, .int .i64 0])) := Lib.hid fun h1 h2 h3 => by
              refine G1.cast ?_
              show vGI (goE p.f p.x p.st p.ti tt y d) = _
              unfold goE
              rw [if_pos (show glE p.f p.x p.st p.ti = 0 from hpe), if_pos (by unfold tgE; rw [h1, h2, h3]; rfl)]
              rfl
            have hms := at_size hpe hps tt
            have HPu : Hid (okL (tt, 10000000) = true → okL (y, 65535) = true → okL (d, 10000000) = true → p.st ≤ tt → (p.at tt).size ≤ 120 → Part (f, x, st, ti) l (k + 1) (r ++ [p] ++ [(p.at tt, y, tt, d)])) := Lib.hid fun b1 b2 b3 h1 h2 =>
              HPk.out.push hkl (by omega) (next_err hpe hps (by unfold tgE; rw [b1, b2, b3]; rfl)) h2 ⟨hq.2.1, hq.1, hq.2.2⟩ h1 rfl (by rw [HQ.out]) (by rw [HQ.out]) (by rw [HQ.out])
            have T1 := Lib.hid (fun w => r3_Time tt w hq.1)
            have T2 := Lib.hid (fun w => r3_Whole y w hq.2.1)
            have T3 := Lib.hid (fun w => r3_Time d w hq.2.2)
            have F2 := Lib.hid (fun w => FW.out (p.at tt, y, tt, d) w (by show (p.at tt).size ≤ _; unfold maxLen; omega))
            have hrl' : (r ++ [p]).length = k + 1 := by simp [hrl]
            generalize hch : r ++ [p] = ch at *
            obtain ⟨pf, px, pst, pti⟩ := p
            simp only [Gl.f, Gl.x, Gl.st, Gl.ti] at HPu hpc HT F2
            generalize hm : Gl.at (pf, px, pst, pti) tt = m at *
            obtain ⟨c0, c1, c2, c3⟩ := hpc
            obtain ⟨x0, x1, x2⟩ := hat.gr (Gr.trans HW.out HG.out)
            simp only [Gl.f, Gl.x, Gl.st, Gl.ti] at c0 c1 c2 c3
            simp only at x0 x1 x2
            have hbl : b < wr.heap.size := cell_lt c0
            obtain ⟨t0, t1⟩ := id hq.1
            obtain ⟨q0, q1⟩ := id hpg.2.1
            simp only [Gl.st] at t0 t1 q0 q1
            have hw1 : IntKind.i64.wrap ((k : Int) + 1 - 1) = (k : Int) := by rw [IntWalk.i64_in _ (by omega)]; omega
            clear G1 hq hgq hpe hps hpg hat hm hch hrl HPk HC HI GO HQ HN HFIN FW
            generalize okL (tt, 10000000) = b1 at *
            generalize okL (y, 65535) = b2 at *
            generalize okL (d, 10000000) = b3 at *
            have HAA : Hid (∀ {o1 o2 : Obj}, Gr w0 ((wr.alloc o1).alloc o2)) := Lib.hid (Gr.trans HW.out ((HG.out.alloc _).alloc _))
            go_wp2_with fail
            refine (T1.out _).mono ?_
            rintro e w1 ⟨rfl, rfl⟩
            cases b1
            · go_wp2_with fail
              refine (AW.out _ HAA.out).mono ?_
              rintro e w2 ⟨rfl, hg1⟩
              have HZ := Lib.hid (Gr.trans HAA.out hg1); clear hg1
              go_wp2
              go_ret
              exact ⟨rfl, HZ.out⟩
            · go_wp2_with fail
              refine (T2.out _).mono ?_
              rintro e w1 ⟨rfl, rfl⟩
              cases b2
              · go_wp2_with fail
                refine (AW.out _ HAA.out).mono ?_
                rintro e w2 ⟨rfl, hg1⟩
                have HZ := Lib.hid (Gr.trans HAA.out hg1); clear hg1
                go_wp2
                go_ret
                exact ⟨rfl, HZ.out⟩
              · go_wp2_with fail
                refine (T3.out _).mono ?_
                rintro e w1 ⟨rfl, rfl⟩
                cases b3
                · go_wp2_with fail
                  refine (AW.out _ HAA.out).mono ?_
                  rintro e w2 ⟨rfl, hg1⟩
                  have HZ := Lib.hid (Gr.trans HAA.out hg1); clear hg1
                  go_wp2
                  go_ret
                  exact ⟨rfl, HZ.out⟩
                · by_cases hlt2 : tt < pst
                  · go_wp2_with fail
                    refine (AW.out _ HAA.out).mono ?_
                    rintro e w2 ⟨rfl, hg1⟩
                    have HZ := Lib.hid (Gr.trans HAA.out hg1); clear hg1
                    go_wp2
                    go_ret
                    exact ⟨rfl, HZ.out⟩
                  · have GG := Lib.hid (HT.out (by simp) (by simp) (by simp))
                    clear T1 T2 T3 HT
                    go_wp2_with fail
                    refine (GG.out _ HAA.out).mono ?_
                    rintro e w1 ⟨rfl, hg1⟩
                    have HG1 := Lib.hid (Gr.trans ((HG.out.alloc _).alloc _) hg1)
                    have HO1 := Lib.hid (HO.out.gr (Gr.trans (((Gr.refl wr).alloc _).alloc _) hg1))
                    have HB := Lib.hid (Box4.new w1 m y tt d 24)
                    have HBA := Lib.hid ((Gr.refl w1).alloc (oGl m y tt d))
                    clear hg1 HG HO GG c0 c1 c2 c3 x0 x1 x2 hbl HAA
                    obtain ⟨k0, k1, k2, k3⟩ := Box4.new w1 m y tt d 24
                    by_cases h120 : 120 < m.size
                    · have F3 := F2.out (w1.alloc (oGl m y tt d))
                      rw [World.size_alloc, decide_eq_false (by omega)] at F3
                      have F3 := Lib.hid F3
                      go_wp2_with fail
                      refine F3.out.mono ?_
                      rintro e w2 ⟨rfl, hg2⟩
                      have HG2 := Lib.hid (Gr.trans HW.out (Gr.trans HG1.out (Gr.trans HBA.out hg2)))
                      clear hg2 k0 k1 k2 k3
                      go_wp2_with fail
                      refine (AW.out _ HG2.out).mono ?_
                      rintro e w3 ⟨rfl, hg1⟩
                      replace HG2 := Lib.hid (Gr.trans HG2.out hg1); clear hg1
                      go_wp2
                      go_ret
                      exact ⟨rfl, HG2.out⟩
                    · have F3 := F2.out (w1.alloc (oGl m y tt d))
                      rw [World.size_alloc, decide_eq_true (by omega)] at F3
                      have F3 := Lib.hid F3
                      have HPn := Lib.hid (HPu.out (by simp) (by simp) (by simp) (by omega) (by omega))
                      go_wp2_with fail
                      refine F3.out.mono ?_
                      rintro e w2 ⟨rfl, hg2⟩
                      have HG2 := Lib.hid (Gr.trans HG1.out (Gr.trans HBA.out hg2))
                      have HO2 := Lib.hid (HO1.out.gr (Gr.trans HBA.out hg2))
                      clear k0 k1 k2 k3
                      obtain ⟨k0, k1, k2, k3⟩ := HB.out.gr hg2
                      clear hg2 HG1 HO1 HB HBA F2 F3
                      go_wp2_with (at_builtin; refine push_gl hi hz0 hz1 hz2 rfl _ _ rfl _ ch rfl HO2.out HG2.out m y tt d rfl (by omega) ?_; rintro g2 cap2 w3 hown3 hg3)
                      have HO3 := Lib.hid hown3
                      have HG3 := Lib.hid hg3
                      clear hown3 hg3
                      go_roundw
                      case rel => exact ⟨k + 1, ch ++ [(m, y, tt, d)], g2, cap2, by go_num, by omega, rfl, by first | exact HO3.out | (rw [hrl'] at HO3; exact HO3.out), HG3.out, HPn.out⟩
                      case measure => simp [intOf]; omega
          · have hkn : k = n := by omega
            subst hkn
            have hch := HPk.out.1
            obtain ⟨v, ks, hk6, hord, V1, N1, R1⟩ := HFIN.out ch HPk.out
            have hrd := HO.out.rd
            have hcap : ch.length ≤ cp ∧ cp ≤ maxLen := by
              rcases HO.out.2 with ⟨h, -⟩ | ⟨g', cap', cur, h, h1, h2, h3, h4, -⟩
              · cases h
              · injection h with e1 e2 e3
                subst e3
                exact ⟨h3, h4⟩
            rw [hch] at V1 N1 hcap
            have HRD := Lib.hid hrd
            have HORD : Hid (∀ j i (hj : j < ks.length) (hi : i < ks.length), j = i + 1 → (ks[i]).1 ≤ (ks[j]).1 ∧ ks[j] ≠ ks[i]) := Lib.hid fun j i hj hi e => by subst e; exact hord (i + 1) hj (by omega)
            have V1 := Lib.hid (V1 wr (Gr.trans HW.out HG.out) _ cp hrd hcap.1 hcap.2)
            have N1 := Lib.hid (fun w hw h => N1 w hw (some ⟨b, 0, none⟩) cp h hcap.1 hcap.2)
            have R1 := Lib.hid R1
            have HG1 := Lib.hid (Gr.trans HW.out HG.out)
            clear HFIN HPk HO hch HC HI GO FW HG hcap hrd hord
            go_wp2_with fail
            refine V1.out.mono ?_
            rintro e w3 ⟨rfl, hg1⟩
            have HRD1 := Lib.hid (HRD.out.gr hg1)
            replace HG1 := Lib.hid (Gr.trans HG1.out hg1)
            clear hg1 HRD V1
            go_wp2_with fail
            refine (N1.out _ HG1.out HRD1.out).mono ?_
            rintro e w4 ⟨⟨g1, cp1, rfl, hr1, h1c, h1m⟩, hg1⟩
            have R2 := R1.out _ (Gr.trans HG1.out hg1) _ cp1 hr1 h1c h1m
            have R2 := Lib.hid R2
            have HR1 := Lib.hid hr1
            replace HG1 := Lib.hid (Gr.trans HG1.out hg1)
            clear hg1 HRD1 N1 R1 hr1
            unfold maxLen at h1m
            obtain ⟨m, hm⟩ : ∃ m, m = ks.length := ⟨_, rfl⟩
            have HM := Lib.hid hm
            rw [← hm] at R2 hk6 h1c ⊢
            clear hm
            go_wp2_with fail
            refine R2.out.mono ?_
            rintro e w5 ⟨rfl, hg1⟩
            have HR2 := Lib.hid (HR1.out.gr hg1)
            replace HG1 := Lib.hid (Gr.trans HG1.out hg1)
            clear hg1 HR1 R2
            have hbeq := ba_beq (s := v) rfl
            go_wp2
            go_loopw [19] (fun i wr => ∃ j : Nat, i = .int .i64 j ∧ 1 ≤ j ∧ (j ≤ m ∨ j = 1) ∧ Hid (Gr w0 wr) ∧ Hid (RdK wr (some ⟨g1, 0, none⟩) ks)) (fun i _ => m - (intOf i).toNat)
            case atStart => exact ⟨1, rfl, Nat.le_refl _, .inr rfl, HG1.out, HR2.out⟩
            case round =>
              clear HG1 HR2
              obtain ⟨j, rfl, hj1, hjm, HG1, HR2⟩ := hrel
              by_cases hlt : j < m
              · have hjk : j < ks.length := by rw [← HM.out]; exact hlt
                obtain ⟨i, hi1⟩ : ∃ i, j = i + 1 := ⟨j - 1, by omega⟩
                have him : i < m := by omega
                have him2 : i < ks.length := by omega
                obtain ⟨o1, o2⟩ := HORD.out j i hjk him2 hi1
                obtain ⟨b1, q1, e1, hat1⟩ := HR2.out j hjk
                obtain ⟨b2, q2, e2, hat2⟩ := HR2.out i him2
                simp only [Option.some.injEq, Addr.mk.injEq, and_true] at e1 e2
                obtain ⟨rfl, rfl⟩ := e1
                obtain ⟨rfl, rfl⟩ := e2
                have hwj : IntKind.i64.wrap ((j : Int) - 1) = (i : Int) := by rw [IntWalk.i64_in _ (by omega)]; omega
                clear hi1
                obtain ⟨c0, c1⟩ := hat1
                obtain ⟨d0, d1⟩ := hat2
                rw [Nat.zero_add] at c0 c1 d0 d1
                generalize ks[j] = x at *
                generalize ks[i] = y at *
                obtain ⟨x0, x1⟩ := x
                obtain ⟨y0, y1⟩ := y
                simp only at o1 c0 c1 d0 d1
                have hlo : decide (x0 < y0) = false := decide_eq_false (by omega)
                have hlo2 : ¬ x0 < y0 := by omega
                by_cases h0 : x0 = y0
                · have hx1 : x1 ≠ y1 := fun e => o2 (by rw [h0, e])
                  have hbn := ba_bne hx1
                  subst h0
                  clear o1 o2 hx1 hjk him2
                  have HRd := Lib.hid (HR2.out.gr (Gr.refl wr).drew)
                  have HGd := Lib.hid (HG1.out.drew)
                  have hS0 : (fun w' : World => w'.cell? ⟨g1, j * 2, none⟩ = some (.int .i64 x0) ∧ w'.cell? ⟨g1, j * 2 + 1, none⟩ = some (.string x1) ∧ w'.cell? ⟨g1, i * 2, none⟩ = some (.int .i64 x0) ∧ w'.cell? ⟨g1, i * 2 + 1, none⟩ = some (.string y1)) wr.drew := ⟨c0, c1, d0, d1⟩
                  clear HR2 HG1
                  go_wp2_with fail
                  refine wp_region_held (S := fun w' : World => w'.cell? ⟨g1, j * 2, none⟩ = some (.int .i64 x0) ∧ w'.cell? ⟨g1, j * 2 + 1, none⟩ = some (.string x1) ∧ w'.cell? ⟨g1, i * 2, none⟩ = some (.int .i64 x0) ∧ w'.cell? ⟨g1, i * 2 + 1, none⟩ = some (.string y1)) (by kernel_rfl) ?_
                  refine wpAnyH_take (i := 0) (v := .slice (some ⟨g1, 0, none⟩) m cp1) rfl (by kernel_rfl) (by kernel_rfl) (by kernel_rfl) (fun _ _ _ h => h) (Or.inl ⟨by rfl, ?_⟩) hS0 ?_
                  · intro w hSw; obtain ⟨s0, s1, s2, s3⟩ := hSw; go_simp
                  try simp only [Act.put, List.getElem_toArray, List.getElem_cons_succ, List.getElem_cons_zero, List.setIfInBounds_toArray, List.set_cons_zero, List.set_cons_succ]
                  refine wpAnyH_take (i := 1) (v := .int .i64 (j : Int)) rfl (by kernel_rfl) (by kernel_rfl) (by kernel_rfl) (fun _ _ _ h => h) (Or.inl ⟨by rfl, ?_⟩) hS0 ?_
                  · intro w hSw; obtain ⟨s0, s1, s2, s3⟩ := hSw; go_simp
                  try simp only [Act.put, List.getElem_toArray, List.getElem_cons_succ, List.getElem_cons_zero, List.setIfInBounds_toArray, List.set_cons_zero, List.set_cons_succ]
                  refine wpAnyH_take (i := 2) (v := .pointer (some ⟨g1, j * 2, none⟩)) rfl (by kernel_rfl) (by kernel_rfl) (by kernel_rfl) (fun _ _ _ h => h) (Or.inl ⟨by rfl, ?_⟩) hS0 ?_
                  · intro w hSw; obtain ⟨s0, s1, s2, s3⟩ := hSw; go_simp
                  try simp only [Act.put, List.getElem_toArray, List.getElem_cons_succ, List.getElem_cons_zero, List.setIfInBounds_toArray, List.set_cons_zero, List.set_cons_succ]
                  refine wpAnyH_take (i := 3) (v := .pointer (some ⟨g1, j * 2, none⟩)) rfl (by kernel_rfl) (by kernel_rfl) (by kernel_rfl) (fun _ _ _ h => h) (Or.inl ⟨by rfl, ?_⟩) hS0 ?_
                  · intro w hSw; obtain ⟨s0, s1, s2, s3⟩ := hSw; go_simp
                  try simp only [Act.put, List.getElem_toArray, List.getElem_cons_succ, List.getElem_cons_zero, List.setIfInBounds_toArray, List.set_cons_zero, List.set_cons_succ]
                  refine wpAnyH_take (i := 4) (v := .int .i64 x0) rfl (by kernel_rfl) (by kernel_rfl) (by kernel_rfl) (fun _ _ _ h => h) (Or.inl ⟨by rfl, ?_⟩) hS0 ?_
                  · intro w hSw; obtain ⟨s0, s1, s2, s3⟩ := hSw; go_simp
                  try simp only [Act.put, List.getElem_toArray, List.getElem_cons_succ, List.getElem_cons_zero, List.setIfInBounds_toArray, List.set_cons_zero, List.set_cons_succ]
                  refine wpAnyH_take (i := 5) (v := .slice (some ⟨g1, 0, none⟩) m cp1) rfl (by kernel_rfl) (by kernel_rfl) (by kernel_rfl) (fun _ _ _ h => h) (Or.inl ⟨by rfl, ?_⟩) hS0 ?_
                  · intro w hSw; obtain ⟨s0, s1, s2, s3⟩ := hSw; go_simp
                  try simp only [Act.put, List.getElem_toArray, List.getElem_cons_succ, List.getElem_cons_zero, List.setIfInBounds_toArray, List.set_cons_zero, List.set_cons_succ]
                  refine wpAnyH_take (i := 6) (v := .int .i64 (j : Int)) rfl (by kernel_rfl) (by kernel_rfl) (by kernel_rfl) (fun _ _ _ h => h) (Or.inl ⟨by rfl, ?_⟩) hS0 ?_
                  · intro w hSw; obtain ⟨s0, s1, s2, s3⟩ := hSw; go_simp
                  try simp only [Act.put, List.getElem_toArray, List.getElem_cons_succ, List.getElem_cons_zero, List.setIfInBounds_toArray, List.set_cons_zero, List.set_cons_succ]
                  refine wpAnyH_take (i := 7) (v := .int .i64 (i : Int)) rfl (by kernel_rfl) (by kernel_rfl) (by kernel_rfl) (fun _ _ _ h => h) (Or.inl ⟨by rfl, ?_⟩) hS0 ?_
                  · intro w hSw; obtain ⟨s0, s1, s2, s3⟩ := hSw; go_simp
                  try simp only [Act.put, List.getElem_toArray, List.getElem_cons_succ, List.getElem_cons_zero, List.setIfInBounds_toArray, List.set_cons_zero, List.set_cons_succ]
                  refine wpAnyH_take (i := 8) (v := .pointer (some ⟨g1, i * 2, none⟩)) rfl (by kernel_rfl) (by kernel_rfl) (by kernel_rfl) (fun _ _ _ h => h) (Or.inl ⟨by rfl, ?_⟩) hS0 ?_
                  · intro w hSw; obtain ⟨s0, s1, s2, s3⟩ := hSw; go_simp
                  try simp only [Act.put, List.getElem_toArray, List.getElem_cons_succ, List.getElem_cons_zero, List.setIfInBounds_toArray, List.set_cons_zero, List.set_cons_succ]
                  refine wpAnyH_take (i := 9) (v := .pointer (some ⟨g1, i * 2, none⟩)) rfl (by kernel_rfl) (by kernel_rfl) (by kernel_rfl) (fun _ _ _ h => h) (Or.inl ⟨by rfl, ?_⟩) hS0 ?_
                  · intro w hSw; obtain ⟨s0, s1, s2, s3⟩ := hSw; go_simp
                  try simp only [Act.put, List.getElem_toArray, List.getElem_cons_succ, List.getElem_cons_zero, List.setIfInBounds_toArray, List.set_cons_zero, List.set_cons_succ]
                  refine wpAnyH_take (i := 10) (v := .int .i64 x0) rfl (by kernel_rfl) (by kernel_rfl) (by kernel_rfl) (fun _ _ _ h => h) (Or.inl ⟨by rfl, ?_⟩) hS0 ?_
                  · intro w hSw; obtain ⟨s0, s1, s2, s3⟩ := hSw; go_simp
                  try simp only [Act.put, List.getElem_toArray, List.getElem_cons_succ, List.getElem_cons_zero, List.setIfInBounds_toArray, List.set_cons_zero, List.set_cons_succ]
                  refine wpAnyH_take (i := 11) (v := .bool false) rfl (by kernel_rfl) (by kernel_rfl) (by kernel_rfl) (fun _ _ _ h => h) (Or.inl ⟨by rfl, ?_⟩) hS0 ?_
                  · intro w hSw; obtain ⟨s0, s1, s2, s3⟩ := hSw; go_simp
                  try simp only [Act.put, List.getElem_toArray, List.getElem_cons_succ, List.getElem_cons_zero, List.setIfInBounds_toArray, List.set_cons_zero, List.set_cons_succ]
                  refine wpAnyH_take (i := 12) (v := .bool false) rfl (by kernel_rfl) (by kernel_rfl) (by kernel_rfl) (fun _ _ _ h => h) (Or.inl ⟨by rfl, ?_⟩) hS0 ?_
                  · intro w hSw; obtain ⟨s0, s1, s2, s3⟩ := hSw; go_simp
                  try simp only [Act.put, List.getElem_toArray, List.getElem_cons_succ, List.getElem_cons_zero, List.setIfInBounds_toArray, List.set_cons_zero, List.set_cons_succ]
                  refine wpAnyH_take (i := 13) (v := .slice (some ⟨g1, 0, none⟩) m cp1) rfl (by kernel_rfl) (by kernel_rfl) (by kernel_rfl) (fun _ _ _ h => h) (Or.inl ⟨by rfl, ?_⟩) hS0 ?_
                  · intro w hSw; obtain ⟨s0, s1, s2, s3⟩ := hSw; go_simp
                  try simp only [Act.put, List.getElem_toArray, List.getElem_cons_succ, List.getElem_cons_zero, List.setIfInBounds_toArray, List.set_cons_zero, List.set_cons_succ]
                  refine wpAnyH_take (i := 14) (v := .int .i64 (j : Int)) rfl (by kernel_rfl) (by kernel_rfl) (by kernel_rfl) (fun _ _ _ h => h) (Or.inl ⟨by rfl, ?_⟩) hS0 ?_
                  · intro w hSw; obtain ⟨s0, s1, s2, s3⟩ := hSw; go_simp
                  try simp only [Act.put, List.getElem_toArray, List.getElem_cons_succ, List.getElem_cons_zero, List.setIfInBounds_toArray, List.set_cons_zero, List.set_cons_succ]
                  refine wpAnyH_take (i := 15) (v := .pointer (some ⟨g1, j * 2, none⟩)) rfl (by kernel_rfl) (by kernel_rfl) (by kernel_rfl) (fun _ _ _ h => h) (Or.inl ⟨by rfl, ?_⟩) hS0 ?_
                  · intro w hSw; obtain ⟨s0, s1, s2, s3⟩ := hSw; go_simp
                  try simp only [Act.put, List.getElem_toArray, List.getElem_cons_succ, List.getElem_cons_zero, List.setIfInBounds_toArray, List.set_cons_zero, List.set_cons_succ]
                  refine wpAnyH_take (i := 16) (v := .agg #[.int .i64 x0, .string x1]) rfl (by kernel_rfl) (by kernel_rfl) (by kernel_rfl) (fun _ _ _ h => h) (Or.inl ⟨by rfl, ?_⟩) hS0 ?_
                  · intro w hSw; obtain ⟨s0, s1, s2, s3⟩ := hSw; go_simp
                  try simp only [Act.put, List.getElem_toArray, List.getElem_cons_succ, List.getElem_cons_zero, List.setIfInBounds_toArray, List.set_cons_zero, List.set_cons_succ]
                  refine wpAnyH_take (i := 17) (v := .slice (some ⟨g1, 0, none⟩) m cp1) rfl (by kernel_rfl) (by kernel_rfl) (by kernel_rfl) (fun _ _ _ h => h) (Or.inl ⟨by rfl, ?_⟩) hS0 ?_
                  · intro w hSw; obtain ⟨s0, s1, s2, s3⟩ := hSw; go_simp
                  try simp only [Act.put, List.getElem_toArray, List.getElem_cons_succ, List.getElem_cons_zero, List.setIfInBounds_toArray, List.set_cons_zero, List.set_cons_succ]
                  refine wpAnyH_take (i := 18) (v := .int .i64 (j : Int)) rfl (by kernel_rfl) (by kernel_rfl) (by kernel_rfl) (fun _ _ _ h => h) (Or.inl ⟨by rfl, ?_⟩) hS0 ?_
                  · intro w hSw; obtain ⟨s0, s1, s2, s3⟩ := hSw; go_simp
                  try simp only [Act.put, List.getElem_toArray, List.getElem_cons_succ, List.getElem_cons_zero, List.setIfInBounds_toArray, List.set_cons_zero, List.set_cons_succ]
                  refine wpAnyH_take (i := 19) (v := .int .i64 (i : Int)) rfl (by kernel_rfl) (by kernel_rfl) (by kernel_rfl) (fun _ _ _ h => h) (Or.inl ⟨by rfl, ?_⟩) hS0 ?_
                  · intro w hSw; obtain ⟨s0, s1, s2, s3⟩ := hSw; go_simp
                  try simp only [Act.put, List.getElem_toArray, List.getElem_cons_succ, List.getElem_cons_zero, List.setIfInBounds_toArray, List.set_cons_zero, List.set_cons_succ]
                  refine wpAnyH_take (i := 20) (v := .pointer (some ⟨g1, i * 2, none⟩)) rfl (by kernel_rfl) (by kernel_rfl) (by kernel_rfl) (fun _ _ _ h => h) (Or.inl ⟨by rfl, ?_⟩) hS0 ?_
                  · intro w hSw; obtain ⟨s0, s1, s2, s3⟩ := hSw; go_simp
                  try simp only [Act.put, List.getElem_toArray, List.getElem_cons_succ, List.getElem_cons_zero, List.setIfInBounds_toArray, List.set_cons_zero, List.set_cons_succ]
                  refine wpAnyH_take (i := 21) (v := .agg #[.int .i64 x0, .string y1]) rfl (by kernel_rfl) (by kernel_rfl) (by kernel_rfl) (fun _ _ _ h => h) (Or.inl ⟨by rfl, ?_⟩) hS0 ?_
                  · intro w hSw; obtain ⟨s0, s1, s2, s3⟩ := hSw; go_simp
                  try simp only [Act.put, List.getElem_toArray, List.getElem_cons_succ, List.getElem_cons_zero, List.setIfInBounds_toArray, List.set_cons_zero, List.set_cons_succ]
                  refine wpAnyH_take (i := 22) (v := .bool false) rfl (by kernel_rfl) (by kernel_rfl) (by kernel_rfl) (fun _ _ _ h => h) (Or.inl ⟨by rfl, ?_⟩) hS0 ?_
                  · intro w hSw; obtain ⟨s0, s1, s2, s3⟩ := hSw; go_simp
                  try simp only [Act.put, List.getElem_toArray, List.getElem_cons_succ, List.getElem_cons_zero, List.setIfInBounds_toArray, List.set_cons_zero, List.set_cons_succ]
                  refine wpAnyH_take (i := 23) (v := .bool false) rfl (by kernel_rfl) (by kernel_rfl) (by kernel_rfl) (fun _ _ _ h => h) (Or.inl ⟨by rfl, ?_⟩) hS0 ?_
                  · intro w hSw; obtain ⟨s0, s1, s2, s3⟩ := hSw; go_simp
                  try simp only [Act.put, List.getElem_toArray, List.getElem_cons_succ, List.getElem_cons_zero, List.setIfInBounds_toArray, List.set_cons_zero, List.set_cons_succ]
                  refine wpAnyH_done (by kernel_rfl) ?_ _
                  go_wp2
                  go_roundw
                  case rel => exact ⟨j + 1, by go_num, by omega, .inl (by omega), HGd.out, HRd.out⟩
                  case measure => simp [intOf]; omega
                · have hbn : (x0 == y0) = false := by simpa using h0
                  clear o2 h0 hjk him2
                  have HRd := Lib.hid (HR2.out.gr (Gr.refl wr).drew)
                  have HGd := Lib.hid (HG1.out.drew)
                  have hS0 : (fun w' : World => w'.cell? ⟨g1, j * 2, none⟩ = some (.int .i64 x0) ∧ w'.cell? ⟨g1, j * 2 + 1, none⟩ = some (.string x1) ∧ w'.cell? ⟨g1, i * 2, none⟩ = some (.int .i64 y0) ∧ w'.cell? ⟨g1, i * 2 + 1, none⟩ = some (.string y1)) wr.drew := ⟨c0, c1, d0, d1⟩
                  clear HR2 HG1
                  go_wp2_with fail
                  refine wp_region_held (S := fun w' : World => w'.cell? ⟨g1, j * 2, none⟩ = some (.int .i64 x0) ∧ w'.cell? ⟨g1, j * 2 + 1, none⟩ = some (.string x1) ∧ w'.cell? ⟨g1, i * 2, none⟩ = some (.int .i64 y0) ∧ w'.cell? ⟨g1, i * 2 + 1, none⟩ = some (.string y1)) (by kernel_rfl) ?_
                  refine wpAnyH_take (i := 0) (v := .slice (some ⟨g1, 0, none⟩) m cp1) rfl (by kernel_rfl) (by kernel_rfl) (by kernel_rfl) (fun _ _ _ h => h) (Or.inl ⟨by rfl, ?_⟩) hS0 ?_
                  · intro w hSw; obtain ⟨s0, s1, s2, s3⟩ := hSw; go_simp
                  try simp only [Act.put, List.getElem_toArray, List.getElem_cons_succ, List.getElem_cons_zero, List.setIfInBounds_toArray, List.set_cons_zero, List.set_cons_succ]
                  refine wpAnyH_take (i := 1) (v := .int .i64 (j : Int)) rfl (by kernel_rfl) (by kernel_rfl) (by kernel_rfl) (fun _ _ _ h => h) (Or.inl ⟨by rfl, ?_⟩) hS0 ?_
                  · intro w hSw; obtain ⟨s0, s1, s2, s3⟩ := hSw; go_simp
                  try simp only [Act.put, List.getElem_toArray, List.getElem_cons_succ, List.getElem_cons_zero, List.setIfInBounds_toArray, List.set_cons_zero, List.set_cons_succ]
                  refine wpAnyH_take (i := 2) (v := .pointer (some ⟨g1, j * 2, none⟩)) rfl (by kernel_rfl) (by kernel_rfl) (by kernel_rfl) (fun _ _ _ h => h) (Or.inl ⟨by rfl, ?_⟩) hS0 ?_
                  · intro w hSw; obtain ⟨s0, s1, s2, s3⟩ := hSw; go_simp
                  try simp only [Act.put, List.getElem_toArray, List.getElem_cons_succ, List.getElem_cons_zero, List.setIfInBounds_toArray, List.set_cons_zero, List.set_cons_succ]
                  refine wpAnyH_take (i := 3) (v := .pointer (some ⟨g1, j * 2, none⟩)) rfl (by kernel_rfl) (by kernel_rfl) (by kernel_rfl) (fun _ _ _ h => h) (Or.inl ⟨by rfl, ?_⟩) hS0 ?_
                  · intro w hSw; obtain ⟨s0, s1, s2, s3⟩ := hSw; go_simp
                  try simp only [Act.put, List.getElem_toArray, List.getElem_cons_succ, List.getElem_cons_zero, List.setIfInBounds_toArray, List.set_cons_zero, List.set_cons_succ]
                  refine wpAnyH_take (i := 4) (v := .int .i64 x0) rfl (by kernel_rfl) (by kernel_rfl) (by kernel_rfl) (fun _ _ _ h => h) (Or.inl ⟨by rfl, ?_⟩) hS0 ?_
                  · intro w hSw; obtain ⟨s0, s1, s2, s3⟩ := hSw; go_simp
                  try simp only [Act.put, List.getElem_toArray, List.getElem_cons_succ, List.getElem_cons_zero, List.setIfInBounds_toArray, List.set_cons_zero, List.set_cons_succ]
                  refine wpAnyH_take (i := 5) (v := .slice (some ⟨g1, 0, none⟩) m cp1) rfl (by kernel_rfl) (by kernel_rfl) (by kernel_rfl) (fun _ _ _ h => h) (Or.inl ⟨by rfl, ?_⟩) hS0 ?_
                  · intro w hSw; obtain ⟨s0, s1, s2, s3⟩ := hSw; go_simp
                  try simp only [Act.put, List.getElem_toArray, List.getElem_cons_succ, List.getElem_cons_zero, List.setIfInBounds_toArray, List.set_cons_zero, List.set_cons_succ]
                  refine wpAnyH_take (i := 6) (v := .int .i64 (j : Int)) rfl (by kernel_rfl) (by kernel_rfl) (by kernel_rfl) (fun _ _ _ h => h) (Or.inl ⟨by rfl, ?_⟩) hS0 ?_
                  · intro w hSw; obtain ⟨s0, s1, s2, s3⟩ := hSw; go_simp
                  try simp only [Act.put, List.getElem_toArray, List.getElem_cons_succ, List.getElem_cons_zero, List.setIfInBounds_toArray, List.set_cons_zero, List.set_cons_succ]
                  refine wpAnyH_take (i := 7) (v := .int .i64 (i : Int)) rfl (by kernel_rfl) (by kernel_rfl) (by kernel_rfl) (fun _ _ _ h => h) (Or.inl ⟨by rfl, ?_⟩) hS0 ?_
                  · intro w hSw; obtain ⟨s0, s1, s2, s3⟩ := hSw; go_simp
                  try simp only [Act.put, List.getElem_toArray, List.getElem_cons_succ, List.getElem_cons_zero, List.setIfInBounds_toArray, List.set_cons_zero, List.set_cons_succ]
                  refine wpAnyH_take (i := 8) (v := .pointer (some ⟨g1, i * 2, none⟩)) rfl (by kernel_rfl) (by kernel_rfl) (by kernel_rfl) (fun _ _ _ h => h) (Or.inl ⟨by rfl, ?_⟩) hS0 ?_
                  · intro w hSw; obtain ⟨s0, s1, s2, s3⟩ := hSw; go_simp
                  try simp only [Act.put, List.getElem_toArray, List.getElem_cons_succ, List.getElem_cons_zero, List.setIfInBounds_toArray, List.set_cons_zero, List.set_cons_succ]
                  refine wpAnyH_take (i := 9) (v := .pointer (some ⟨g1, i * 2, none⟩)) rfl (by kernel_rfl) (by kernel_rfl) (by kernel_rfl) (fun _ _ _ h => h) (Or.inl ⟨by rfl, ?_⟩) hS0 ?_
                  · intro w hSw; obtain ⟨s0, s1, s2, s3⟩ := hSw; go_simp
                  try simp only [Act.put, List.getElem_toArray, List.getElem_cons_succ, List.getElem_cons_zero, List.setIfInBounds_toArray, List.set_cons_zero, List.set_cons_succ]
                  refine wpAnyH_take (i := 10) (v := .int .i64 y0) rfl (by kernel_rfl) (by kernel_rfl) (by kernel_rfl) (fun _ _ _ h => h) (Or.inl ⟨by rfl, ?_⟩) hS0 ?_
                  · intro w hSw; obtain ⟨s0, s1, s2, s3⟩ := hSw; go_simp
                  try simp only [Act.put, List.getElem_toArray, List.getElem_cons_succ, List.getElem_cons_zero, List.setIfInBounds_toArray, List.set_cons_zero, List.set_cons_succ]
                  refine wpAnyH_take (i := 11) (v := .bool false) rfl (by kernel_rfl) (by kernel_rfl) (by kernel_rfl) (fun _ _ _ h => h) (Or.inl ⟨by rfl, ?_⟩) hS0 ?_
                  · intro w hSw; obtain ⟨s0, s1, s2, s3⟩ := hSw; go_simp
                  try simp only [Act.put, List.getElem_toArray, List.getElem_cons_succ, List.getElem_cons_zero, List.setIfInBounds_toArray, List.set_cons_zero, List.set_cons_succ]
                  refine wpAnyH_take (i := 12) (v := .bool false) rfl (by kernel_rfl) (by kernel_rfl) (by kernel_rfl) (fun _ _ _ h => h) (Or.inl ⟨by rfl, ?_⟩) hS0 ?_
                  · intro w hSw; obtain ⟨s0, s1, s2, s3⟩ := hSw; go_simp
                  try simp only [Act.put, List.getElem_toArray, List.getElem_cons_succ, List.getElem_cons_zero, List.setIfInBounds_toArray, List.set_cons_zero, List.set_cons_succ]
                  refine wpAnyH_take (i := 13) (v := .slice (some ⟨g1, 0, none⟩) m cp1) rfl (by kernel_rfl) (by kernel_rfl) (by kernel_rfl) (fun _ _ _ h => h) (Or.inl ⟨by rfl, ?_⟩) hS0 ?_
                  · intro w hSw; obtain ⟨s0, s1, s2, s3⟩ := hSw; go_simp
                  try simp only [Act.put, List.getElem_toArray, List.getElem_cons_succ, List.getElem_cons_zero, List.setIfInBounds_toArray, List.set_cons_zero, List.set_cons_succ]
                  refine wpAnyH_take (i := 14) (v := .int .i64 (j : Int)) rfl (by kernel_rfl) (by kernel_rfl) (by kernel_rfl) (fun _ _ _ h => h) (Or.inl ⟨by rfl, ?_⟩) hS0 ?_
                  · intro w hSw; obtain ⟨s0, s1, s2, s3⟩ := hSw; go_simp
                  try simp only [Act.put, List.getElem_toArray, List.getElem_cons_succ, List.getElem_cons_zero, List.setIfInBounds_toArray, List.set_cons_zero, List.set_cons_succ]
                  refine wpAnyH_take (i := 15) (v := .pointer (some ⟨g1, j * 2, none⟩)) rfl (by kernel_rfl) (by kernel_rfl) (by kernel_rfl) (fun _ _ _ h => h) (Or.inl ⟨by rfl, ?_⟩) hS0 ?_
                  · intro w hSw; obtain ⟨s0, s1, s2, s3⟩ := hSw; go_simp
                  try simp only [Act.put, List.getElem_toArray, List.getElem_cons_succ, List.getElem_cons_zero, List.setIfInBounds_toArray, List.set_cons_zero, List.set_cons_succ]
                  refine wpAnyH_take (i := 16) (v := .agg #[.int .i64 x0, .string x1]) rfl (by kernel_rfl) (by kernel_rfl) (by kernel_rfl) (fun _ _ _ h => h) (Or.inl ⟨by rfl, ?_⟩) hS0 ?_
                  · intro w hSw; obtain ⟨s0, s1, s2, s3⟩ := hSw; go_simp
                  try simp only [Act.put, List.getElem_toArray, List.getElem_cons_succ, List.getElem_cons_zero, List.setIfInBounds_toArray, List.set_cons_zero, List.set_cons_succ]
                  refine wpAnyH_take (i := 17) (v := .slice (some ⟨g1, 0, none⟩) m cp1) rfl (by kernel_rfl) (by kernel_rfl) (by kernel_rfl) (fun _ _ _ h => h) (Or.inl ⟨by rfl, ?_⟩) hS0 ?_
                  · intro w hSw; obtain ⟨s0, s1, s2, s3⟩ := hSw; go_simp
                  try simp only [Act.put, List.getElem_toArray, List.getElem_cons_succ, List.getElem_cons_zero, List.setIfInBounds_toArray, List.set_cons_zero, List.set_cons_succ]
                  refine wpAnyH_take (i := 18) (v := .int .i64 (j : Int)) rfl (by kernel_rfl) (by kernel_rfl) (by kernel_rfl) (fun _ _ _ h => h) (Or.inl ⟨by rfl, ?_⟩) hS0 ?_
                  · intro w hSw; obtain ⟨s0, s1, s2, s3⟩ := hSw; go_simp
                  try simp only [Act.put, List.getElem_toArray, List.getElem_cons_succ, List.getElem_cons_zero, List.setIfInBounds_toArray, List.set_cons_zero, List.set_cons_succ]
                  refine wpAnyH_take (i := 19) (v := .int .i64 (i : Int)) rfl (by kernel_rfl) (by kernel_rfl) (by kernel_rfl) (fun _ _ _ h => h) (Or.inl ⟨by rfl, ?_⟩) hS0 ?_
                  · intro w hSw; obtain ⟨s0, s1, s2, s3⟩ := hSw; go_simp
                  try simp only [Act.put, List.getElem_toArray, List.getElem_cons_succ, List.getElem_cons_zero, List.setIfInBounds_toArray, List.set_cons_zero, List.set_cons_succ]
                  refine wpAnyH_take (i := 20) (v := .pointer (some ⟨g1, i * 2, none⟩)) rfl (by kernel_rfl) (by kernel_rfl) (by kernel_rfl) (fun _ _ _ h => h) (Or.inl ⟨by rfl, ?_⟩) hS0 ?_
                  · intro w hSw; obtain ⟨s0, s1, s2, s3⟩ := hSw; go_simp
                  try simp only [Act.put, List.getElem_toArray, List.getElem_cons_succ, List.getElem_cons_zero, List.setIfInBounds_toArray, List.set_cons_zero, List.set_cons_succ]
                  refine wpAnyH_take (i := 21) (v := .agg #[.int .i64 y0, .string y1]) rfl (by kernel_rfl) (by kernel_rfl) (by kernel_rfl) (fun _ _ _ h => h) (Or.inl ⟨by rfl, ?_⟩) hS0 ?_
                  · intro w hSw; obtain ⟨s0, s1, s2, s3⟩ := hSw; go_simp
                  try simp only [Act.put, List.getElem_toArray, List.getElem_cons_succ, List.getElem_cons_zero, List.setIfInBounds_toArray, List.set_cons_zero, List.set_cons_succ]
                  refine wpAnyH_take (i := 22) (v := .bool false) rfl (by kernel_rfl) (by kernel_rfl) (by kernel_rfl) (fun _ _ _ h => h) (Or.inl ⟨by rfl, ?_⟩) hS0 ?_
                  · intro w hSw; obtain ⟨s0, s1, s2, s3⟩ := hSw; go_simp
                  try simp only [Act.put, List.getElem_toArray, List.getElem_cons_succ, List.getElem_cons_zero, List.setIfInBounds_toArray, List.set_cons_zero, List.set_cons_succ]
                  refine wpAnyH_take (i := 23) (v := .bool false) rfl (by kernel_rfl) (by kernel_rfl) (by kernel_rfl) (fun _ _ _ h => h) (Or.inl ⟨by rfl, ?_⟩) hS0 ?_
                  · intro w hSw; obtain ⟨s0, s1, s2, s3⟩ := hSw; go_simp
                  try simp only [Act.put, List.getElem_toArray, List.getElem_cons_succ, List.getElem_cons_zero, List.setIfInBounds_toArray, List.set_cons_zero, List.set_cons_succ]
                  refine wpAnyH_done (by kernel_rfl) ?_ _
                  go_wp2
                  go_roundw
                  case rel => exact ⟨j + 1, by go_num, by omega, .inl (by omega), HGd.out, HRd.out⟩
                  case measure => simp [intOf]; omega
              · have hge : m ≤ j := by omega
                clear hjm HORD HR2
                go_wp2_with fail
                refine (AW.out _ HG1.out).mono ?_
                rintro e w6 ⟨rfl, hg1⟩
                replace HG1 := Lib.hid (Gr.trans HG1.out hg1); clear hg1
                go_wp2
                go_ret
                exact ⟨rfl, HG1.out⟩
    · have CK1 : RetG w0 19 #[vG4 g] (.int .i64 g.err) := CK.out
      have CK1 := Lib.hid CK1
      have hne : (g.err != 0) = true := by simpa using he
      clear htab hmx herr hc hI
      obtain ⟨f, x, st, ti⟩ := g
      generalize Gl.err (f, x, st, ti) = c at *
      simp only [Gl.f, Gl.x, Gl.st, Gl.ti] at F1
      clear FW hgs hg hs hs1 CK he
      generalize l.length = n at *
      intro w hw
      have F1' := F1.out (w.alloc (oGl f x st ti))
      rw [World.size_alloc] at F1'
      have F1' := Lib.hid F1'
      have HG := Lib.hid hw; clear hw F1
      have HGA := Lib.hid ((Gr.refl w).alloc (oGl f x st ti))
      have HB := Lib.hid (Box4.new w f x st ti 24)
      obtain ⟨k0, k1, k2, k3⟩ := Box4.new w f x st ti 24
      go_enter Tryz.func9, Tryz.ntmps9
      go_wp2_with fail
      refine F1'.out.mono ?_
      rintro e w1 ⟨rfl, hg1⟩
      clear k0 k1 k2 k3
      obtain ⟨k0, k1, k2, k3⟩ := HB.out.gr hg1
      replace HG := Lib.hid (Gr.trans HG.out (Gr.trans HGA.out hg1)); clear hg1 F1'
      go_wp2_with fail
      refine (CK1.out _ HG.out).mono ?_
      rintro e w2 ⟨rfl, hg1⟩
      replace HG := Lib.hid (Gr.trans HG.out hg1); clear hg1
      go_wp2_with fail
      refine (AW.out _ HG.out).mono ?_
      rintro e w3 ⟨rfl, hg1⟩
      replace HG := Lib.hid (Gr.trans HG.out hg1); clear hg1
      go_wp2
      go_ret
      exact ⟨rfl, HG.out⟩
end
end Go.Proofs.YtflkgkchoagphaaGreatDoor
