/- Chain of glides, both sides. -/
import Derived.Test.YtflkgkchoagphaaGreatDoorGlCP
set_option linter.unusedVariables false
set_option linter.unusedSimpArgs false
namespace Go.Proofs.YtflkgkchoagphaaGreatDoor
open Go.RowKit Go.Shelf
open Z

theorem chainE_step {l : List Gl} {k : Nat} {r : Int} (hl : ¬ 256 < l.length) (hr : chainE l = r) (hk : k < l.length) (h : ∀ j, j < k → stepE l j = 0) {c : Int} (hc : stepE l k = c) (hne : c ≠ 0) : r = c := by
  rw [← hr, chainE_at (by omega) hk h (by rw [hc]; exact hne), hc]
/-- what the step from a glide to the next one shows -/
def overE (p g : Gl) : Int := if g.st < p.st then 9 else if g.f = p.at g.st then 0 else 3
theorem overE_lt {p g : Gl} (h : g.st < p.st) : overE p g = 9 := by unfold overE; rw [if_pos h]
theorem overE_eq {p g : Gl} (h : ¬ g.st < p.st) (h' : g.f = p.at g.st) : overE p g = 0 := by unfold overE; rw [if_neg h, if_pos h']
theorem overE_ne {p g : Gl} (h : ¬ g.st < p.st) (h' : g.f ≠ p.at g.st) : overE p g = 3 := by unfold overE; rw [if_neg h, if_neg h']
theorem stepE_first {l : List Gl} {k : Nat} (hk : k < l.length) (h0 : k = 0) (he : (l[k]).err = 0) : stepE l k = 0 := by rw [stepE_at hk, if_neg (by simpa using he), if_pos h0]
theorem stepE_err {l : List Gl} {k : Nat} (hk : k < l.length) (he : (l[k]).err ≠ 0) : stepE l k = (l[k]).err := by rw [stepE_at hk, if_pos he]
theorem stepE_over {l : List Gl} {j k : Nat} (hk : k < l.length) (hj : k = j + 1) (he : (l[k]).err = 0) : stepE l k = overE (l[j]'(by omega)) l[k] := by
  subst hj
  rw [stepE_at hk, if_neg (by simpa using he), if_neg (by omega)]; rfl
theorem ba_beq {s t : ByteArray} (h : s = t) : (s.toList == t.toList) = true := by subst h; simp
theorem ba_bne {s t : ByteArray} (h : s ≠ t) : (s.toList == t.toList) = false := by
  rw [beq_eq_false_iff_ne, ByteArray.toList_eq, ByteArray.toList_eq]
  intro e; exact h (ba_ext e)
section
variable {w0 : World}
end
section
variable {w0 : World} (htab : Tab w0) (hmx : Mx w0) (herr : ErrR w0)
include htab hmx herr
set_option maxHeartbeats 1000000 in
set_option maxRecDepth 100000 in
theorem ret_over {p g : Gl} (hp : p.err = 0) (hps : p.f.size ≤ 1400) (hg : g.isG) : Ret w0 69 #[vG4 p, vG4 g] (.int .i64 (overE p g)) := by
  have L1 := overE_lt (p := p) (g := g)
  have L2 := overE_eq (p := p) (g := g)
  have L3 := overE_ne (p := p) (g := g)
  generalize overE p g = c at *
  obtain ⟨ps, px, pst, pti⟩ := p
  obtain ⟨s, x, st, ti⟩ := g
  obtain ⟨hx, hst, hti⟩ := hg
  have A := RetG.of4 (w0 := w0) fun w1 h => (ret_GAt (htab_gr htab h) (hmx.gr h) (herr.gr h) hps (x := px) (st := pst) (ti := pti) hst).si (show atE ps px pst pti st = (Gl.at (ps, px, pst, pti) st, 0) by unfold atE; rw [if_pos (show glE ps px pst pti = 0 from hp)]; rfl)
  obtain ⟨-, -, -, -, px0, px1, pst0, pst1, pti0, pti1⟩ := (glE_zero_iff hp)
  simp only [Gl.f, Gl.x, Gl.st, Gl.ti] at hst hps L1 L2 L3 px0 px1 pst0 pst1 pti0 pti1
  generalize Gl.at (ps, px, pst, pti) st = v at *
  have A := Lib.hid A
  obtain ⟨st0, st1⟩ := hst
  clear htab hmx herr hp hps hx hti
  intro w hg
  have HD := Lib.hid ((Box4.new w ps px pst pti 24).gr ((Gr.refl _).alloc (oGl s x st ti)))
  have HB := Lib.hid (GB.new2 w (oGl ps px pst pti) s x st ti 24)
  have HG := Lib.hid ((hg.alloc (oGl ps px pst pti)).alloc (oGl s x st ti))
  clear hg
  obtain ⟨d0, d1, d2, d3⟩ := id HD.out
  obtain ⟨k0, k1, k2, k3, -, -, -, -⟩ := id HB.out
  by_cases hlo : st < pst
  · rw [L1 hlo]
    clear L1 L2 L3
    go_enter Tryz.func69, Tryz.ntmps69
    go_wp2
    go_ret
    exact ⟨rfl, HG.out⟩
  · by_cases hq : s = v
    · rw [L2 hlo hq]
      have hbe := ba_beq hq
      clear hq L1 L2 L3
      go_enter Tryz.func69, Tryz.ntmps69
      go_wp2_with fail
      refine (A.out _ HG.out).mono ?_
      rintro e w1 ⟨rfl, hg⟩
      have hB := HB.out.gr hg
      replace HG := Lib.hid (Gr.trans HG.out hg)
      clear hg HB HD k0 k1 k2 k3 d0 d1 d2 d3
      obtain ⟨k0, k1, k2, k3, -, -, -, -⟩ := hB
      go_wp2
      go_ret
      exact ⟨rfl, HG.out⟩
    · rw [L3 hlo hq]
      have hbe := ba_bne hq
      clear hq L1 L2 L3
      go_enter Tryz.func69, Tryz.ntmps69
      go_wp2_with fail
      refine (A.out _ HG.out).mono ?_
      rintro e w1 ⟨rfl, hg⟩
      have hB := HB.out.gr hg
      replace HG := Lib.hid (Gr.trans HG.out hg)
      clear hg HB HD k0 k1 k2 k3 d0 d1 d2 d3
      obtain ⟨k0, k1, k2, k3, -, -, -, -⟩ := hB
      go_wp2
      go_ret
      exact ⟨rfl, HG.out⟩
set_option maxHeartbeats 4000000 in
set_option maxRecDepth 100000 in
theorem ret_GChain {a : Option Addr} {l : List Gl} {cap : Nat} (hc : RdG w0 a l) (hI : ∀ g ∈ l, g.isG) (hf : Fits l) (hlm : l.length ≤ maxLen) : Ret w0 31 #[.slice a l.length cap] (.int .i64 (chainE l)) := by
  unfold maxLen at hlm
  by_cases hm : 256 < l.length
  · rw [chainE_many hm]
    clear hc hI hf htab hmx herr
    generalize l.length = n at *
    intro w hg
    have HG := Lib.hid hg; clear hg
    go_enter Tryz.func31, Tryz.ntmps31
    go_wp2
    go_ret
    exact ⟨rfl, HG.out⟩
  · have hsz := hf.resolve_left hm
    have HC := Lib.hid hc
    have HI := Lib.hid hI
    have HS := Lib.hid hsz
    clear hc hI hf hsz
    obtain ⟨r, hr⟩ : ∃ r, chainE l = r := ⟨_, rfl⟩
    have HST := Lib.hid (fun (k : Nat) (hk : k < l.length) (h : ∀ j, j < k → stepE l j = 0) (c : Int) (hc : stepE l k = c) (hne : c ≠ 0) => chainE_step hm hr hk h hc hne)
    have HEND : Hid ((∀ j, j < l.length → stepE l j = 0) → r = 0) := fun h => by rw [← hr]; exact chainE_ok (by omega) h
    rw [hr]
    clear hr
    obtain ⟨n, hn⟩ : ∃ n, n = l.length := ⟨_, rfl⟩
    have HN := Lib.hid hn
    rw [← hn]
    have hn256 : n ≤ 256 := by omega
    clear hn hlm hm
    have CK := Lib.hid (fun (g : Gl) (hs : g.f.size ≤ 1400) => RetG.of4 (w0 := w0) fun w1 h => ret_GCheck (htab_gr htab h) (hmx.gr h) (herr.gr h) (s := g.f) (by omega) g.x g.st g.ti)
    have CO := Lib.hid (fun (p g : Gl) (hp : p.err = 0) (hps : p.f.size ≤ 1400) (hg : g.isG) => RetG.of4 (w0 := w0) fun w1 h => ret_over (htab_gr htab h) (hmx.gr h) (herr.gr h) hp hps hg)
    clear htab hmx herr
    intro w hg
    have HG := Lib.hid hg; clear hg
    go_enter Tryz.func31, Tryz.ntmps31
    go_wp2
    go_loopw [3, 4, 5, 6, 12] (fun _ _ _ _ i wr => ∃ k : Nat, i = .int .i64 k ∧ k ≤ n ∧ Hid (Gr w0 wr) ∧ Hid (∀ j, j < k → stepE l j = 0)) (fun _ _ _ _ i _ => n - (intOf i).toNat)
    case atStart => exact ⟨0, rfl, Nat.zero_le _, HG.out, fun j h => absurd h (by omega)⟩
    case round =>
      clear HG
      obtain ⟨k, rfl, hk, HG, HK⟩ := hrel
      by_cases hlt : k < n
      · have hkl : k < l.length := by rw [← HN.out]; exact hlt
        obtain ⟨b, o, rfl, hat⟩ := HC.out k hkl
        have S1 := fun h0 he => stepE_first hkl h0 he
        have S2 := fun he => stepE_err hkl he
        have S3 := fun (j : Nat) hj he => stepE_over (j := j) hkl hj he
        have hig := HI.out _ (List.getElem_mem hkl)
        have hs := HS.out _ (List.getElem_mem hkl)
        generalize hgk : l[k] = g at *
        have K := CK.out g hs
        have HA := Lib.hid hat; clear hat
        obtain ⟨s, x, st, ti⟩ := g
        simp only [Gl.f, Gl.x, Gl.st, Gl.ti] at K
        obtain ⟨c0, c1, c2, c3⟩ := HA.out.gr HG.out
        simp only [Gl.f, Gl.x, Gl.st, Gl.ti] at c0 c1 c2 c3
        have HB := Lib.hid (GB.new wr s x st ti 24)
        have HGA := Lib.hid (HG.out.alloc (oGl s x st ti))
        have HX := Lib.hid ((Gr.refl wr).alloc (oGl s x st ti))
        by_cases he : glE s x st ti = 0
        · rw [he] at K
          have K := Lib.hid K
          rcases Nat.eq_zero_or_pos k with hk0 | hk0
          · have H0 := Lib.hid (S1 hk0 he)
            have hz : ((k : Int) == 0) = true := by subst hk0; rfl
            clear S1 S2 S3 hs he hig hgk hk0 CK CO
            go_wp2_with fail
            refine (K.out _ HGA.out).mono ?_
            rintro e w1 ⟨rfl, hg⟩
            replace HG := Lib.hid (Gr.trans HGA.out hg)
            clear hg c0 c1 c2 c3 HB HGA HX
            go_wp2
            go_roundw
            case rel =>
              refine ⟨k + 1, by go_num, by omega, HG.out, fun j h => ?_⟩
              by_cases hjk : j = k
              · subst hjk; exact H0.out
              · exact HK.out j (by omega)
            case measure => simp [intOf]; omega
          · obtain ⟨j, hj⟩ : ∃ j, k = j + 1 := ⟨k - 1, by omega⟩
            have hst := S3 j hj he
            have hjl : j < l.length := by omega
            obtain ⟨b', o', hb', hdt⟩ := HC.out j hjl
            obtain ⟨rfl, rfl⟩ : b = b' ∧ o = o' := by simpa using hb'
            have hp := (step_zero hjl (HK.out j (by omega))).1
            have hps := HS.out _ (List.getElem_mem hjl)
            generalize hgj : l[j] = p at *
            have O := CO.out p (s, x, st, ti) hp hps hig
            rw [← hst] at O
            obtain ⟨ps, px, pst, pti⟩ := p
            have HD := Lib.hid hdt; clear hdt
            have hz : ((k : Int) == 0) = false := by simp; omega
            have hw1 : IntKind.i64.wrap ((k : Int) - 1) = (j : Int) := by rw [IntWalk.i64_in _ (by omega)]; omega
            have hjn : (j : Int) < n := by omega
            by_cases hzz : stepE l k = 0
            · rw [hzz] at O
              have O := Lib.hid O
              have H0 := Lib.hid hzz
              clear hst S1 S2 S3 hs he hig hgk hgj hp hps hzz CK CO hk0 hj hjl
              go_wp2_with fail
              refine (K.out _ HGA.out).mono ?_
              rintro e w1 ⟨rfl, hg⟩
              have hB := HB.out.gr hg
              replace HG := Lib.hid (Gr.trans HGA.out hg)
              clear hg c0 c1 c2 c3 HB HGA HX
              obtain ⟨c0, c1, c2, c3, -, -, -, -⟩ := hB
              obtain ⟨d0, d1, d2, d3⟩ := HD.out.gr HG.out
              simp only [Gl.f, Gl.x, Gl.st, Gl.ti] at d0 d1 d2 d3
              go_wp2
              have gd : Gr w0 w1.drew := HG.out.drew
              go_region_held3 (fun w' => w'.cell? ⟨b, o + j * 4, none⟩ = some (.string ps) ∧ w'.cell? ⟨b, o + j * 4 + 1, none⟩ = some (.int .i64 px) ∧ w'.cell? ⟨b, o + j * 4 + 2, none⟩ = some (.int .i64 pst) ∧ w'.cell? ⟨b, o + j * 4 + 3, none⟩ = some (.int .i64 pti) ∧ w'.cell? ⟨wr.heap.size, 0, none⟩ = some (.string s) ∧ w'.cell? ⟨wr.heap.size, 1, none⟩ = some (.int .i64 x) ∧ w'.cell? ⟨wr.heap.size, 2, none⟩ = some (.int .i64 st) ∧ w'.cell? ⟨wr.heap.size, 3, none⟩ = some (.int .i64 ti)) (go_keep) (first
                | (go_at_call 69; refine (O.out _ (by assumption)).mono ?_; rintro e w6 ⟨rfl, hg6⟩; have g6 : Gr w0 w6 := Gr.trans (by assumption) hg6; have m0 : w6.cell? ⟨b, o + j * 4, none⟩ = some (.string ps) := gr_cell hg6 (by assumption); have m1 : w6.cell? ⟨b, o + j * 4 + 1, none⟩ = some (.int .i64 px) := gr_cell hg6 (by assumption); have m2 : w6.cell? ⟨b, o + j * 4 + 2, none⟩ = some (.int .i64 pst) := gr_cell hg6 (by assumption); have m3 : w6.cell? ⟨b, o + j * 4 + 3, none⟩ = some (.int .i64 pti) := gr_cell hg6 (by assumption); have m4 : w6.cell? ⟨wr.heap.size, 0, none⟩ = some (.string s) := gr_cell hg6 (by assumption); have m5 : w6.cell? ⟨wr.heap.size, 1, none⟩ = some (.int .i64 x) := gr_cell hg6 (by assumption); have m6 : w6.cell? ⟨wr.heap.size, 2, none⟩ = some (.int .i64 st) := gr_cell hg6 (by assumption); have m7 : w6.cell? ⟨wr.heap.size, 3, none⟩ = some (.int .i64 ti) := gr_cell hg6 (by assumption)))
              go_wp2
              go_roundw
              case rel =>
                refine ⟨k + 1, by go_num, by omega, by assumption, fun i h => ?_⟩
                by_cases hij : i = k
                · subst hij; exact H0.out
                · exact HK.out i (by omega)
              case measure => simp [intOf]; omega
            · have HR := Lib.hid (HST.out _ hkl HK.out _ rfl hzz)
              have hne : (stepE l k != 0) = true := by simpa using hzz
              have O := Lib.hid O
              clear hst S1 S2 S3 hs he hig hgk hgj hp hps hzz CK CO hk0 hj hjl
              generalize stepE l k = c at *
              go_wp2_with fail
              refine (K.out _ HGA.out).mono ?_
              rintro e w1 ⟨rfl, hg⟩
              have hB := HB.out.gr hg
              replace HG := Lib.hid (Gr.trans HGA.out hg)
              clear hg c0 c1 c2 c3 HB HGA HX
              obtain ⟨c0, c1, c2, c3, -, -, -, -⟩ := hB
              obtain ⟨d0, d1, d2, d3⟩ := HD.out.gr HG.out
              simp only [Gl.f, Gl.x, Gl.st, Gl.ti] at d0 d1 d2 d3
              go_wp2
              have gd : Gr w0 w1.drew := HG.out.drew
              go_region_held3 (fun w' => w'.cell? ⟨b, o + j * 4, none⟩ = some (.string ps) ∧ w'.cell? ⟨b, o + j * 4 + 1, none⟩ = some (.int .i64 px) ∧ w'.cell? ⟨b, o + j * 4 + 2, none⟩ = some (.int .i64 pst) ∧ w'.cell? ⟨b, o + j * 4 + 3, none⟩ = some (.int .i64 pti) ∧ w'.cell? ⟨wr.heap.size, 0, none⟩ = some (.string s) ∧ w'.cell? ⟨wr.heap.size, 1, none⟩ = some (.int .i64 x) ∧ w'.cell? ⟨wr.heap.size, 2, none⟩ = some (.int .i64 st) ∧ w'.cell? ⟨wr.heap.size, 3, none⟩ = some (.int .i64 ti)) (go_keep) (first
                | (go_at_call 69; refine (O.out _ (by assumption)).mono ?_; rintro e w6 ⟨rfl, hg6⟩; have g6 : Gr w0 w6 := Gr.trans (by assumption) hg6; have m0 : w6.cell? ⟨b, o + j * 4, none⟩ = some (.string ps) := gr_cell hg6 (by assumption); have m1 : w6.cell? ⟨b, o + j * 4 + 1, none⟩ = some (.int .i64 px) := gr_cell hg6 (by assumption); have m2 : w6.cell? ⟨b, o + j * 4 + 2, none⟩ = some (.int .i64 pst) := gr_cell hg6 (by assumption); have m3 : w6.cell? ⟨b, o + j * 4 + 3, none⟩ = some (.int .i64 pti) := gr_cell hg6 (by assumption); have m4 : w6.cell? ⟨wr.heap.size, 0, none⟩ = some (.string s) := gr_cell hg6 (by assumption); have m5 : w6.cell? ⟨wr.heap.size, 1, none⟩ = some (.int .i64 x) := gr_cell hg6 (by assumption); have m6 : w6.cell? ⟨wr.heap.size, 2, none⟩ = some (.int .i64 st) := gr_cell hg6 (by assumption); have m7 : w6.cell? ⟨wr.heap.size, 3, none⟩ = some (.int .i64 ti) := gr_cell hg6 (by assumption)))
              go_wp2
              go_ret
              exact ⟨ret_int HR.out.symm, by assumption⟩
        · have HR := Lib.hid (HST.out _ hkl HK.out _ (S2 he) he)
          have hne : (glE s x st ti != 0) = true := by simpa using he
          have K := Lib.hid K
          clear S1 S2 S3 hs he hig hgk CK CO
          simp only [Gl.err, Gl.f, Gl.x, Gl.st, Gl.ti] at HR
          generalize glE s x st ti = c at *
          go_wp2_with fail
          refine (K.out _ HGA.out).mono ?_
          rintro e w1 ⟨rfl, hg⟩
          replace HG := Lib.hid (Gr.trans HGA.out hg)
          clear hg c0 c1 c2 c3 HB HGA HX
          go_wp2
          go_ret
          exact ⟨ret_int HR.out.symm, HG.out⟩
      · have HR := Lib.hid (HEND.out fun j hj => HK.out j (by have := HN.out; omega))
        go_wp2
        go_ret
        exact ⟨ret_int HR.out.symm, HG.out⟩
end
end Go.Proofs.YtflkgkchoagphaaGreatDoor
