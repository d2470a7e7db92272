/- Read of the program. -/
import Derived.Test.YtflkgkchoagphaaGreatDoorGlRT
import Derived.Test.YtflkgkchoagphaaGreatDoorGlG
set_option linter.unusedVariables false
set_option linter.unusedSimpArgs false
namespace Go.Proofs.YtflkgkchoagphaaGreatDoor
open Go.RowKit Go.Shelf Go.Deep
open Z
attribute [local go_sem] Oper.semAt_some

theorem addr_ne {b b' o o' : Nat} (h : b' ≠ b) : (⟨b, o, none⟩ : Addr) ≠ ⟨b', o', none⟩ := by intro e; cases e; exact h rfl
theorem readE_nil (t : Int) : readE [] t = (⟨#[]⟩, 12) := by unfold readE; rw [if_neg (by decide)]; rfl
theorem knsE_bend {l : List Kn} (h : l ≠ []) : bendE l = knsE l := by unfold bendE; rw [if_neg (fun e => h (List.eq_nil_of_length_eq_zero e))]
theorem readE_bad {l : List Kn} {t : Int} (h : knsE l ≠ 0) : readE l t = (⟨#[]⟩, knsE l) := by
  have hn : l ≠ [] := by rintro rfl; exact h (by decide)
  unfold readE; rw [knsE_bend hn, if_neg h]
theorem readE_ok {l : List Kn} {t : Int} (h : knsE l = 0) (hn : l ≠ []) : readE l t = (readL l t, 0) := by unfold readE; rw [knsE_bend hn, if_pos h]
section
variable {w0 : World} (htab : Tab w0) (hmx : Mx w0) (herr : ErrR w0)
include htab hmx herr
set_option maxHeartbeats 4000000 in
set_option maxRecDepth 100000 in
theorem ret_GRead {a : Option Addr} {l : List Kn} {cap : Nat} {t : Int} (hc : RdK w0 a l) (hf : FitsK l) (hlc : l.length ≤ cap) (hcm : cap ≤ maxLen) (ht : isJ t) : Ret w0 36 #[.slice a l.length cap, .int .i64 t] (vSI (readE l t)) := by
  have C := RetG.of4 (w0 := w0) fun w1 h => ret_checkKnots (htab_gr htab h) (hmx.gr h) (herr.gr h) (cap := cap) (hc.gr h) hf.w (by omega)
  intro w hg
  have hsz := hg.size
  obtain ⟨hrb, htb, hgb⟩ := box_rb w t
  have HRB := Lib.hid hrb
  have HTB := Lib.hid htb
  have HG := Lib.hid (Gr.trans hg hgb)
  clear hrb htb hgb
  by_cases h : knsE l = 0
  · rw [h] at C
    have C := Lib.hid C
    obtain ⟨h512, hz⟩ := knsE_zero h
    have hszs := hf.resolve_left (by omega)
    have HV1 := Lib.hid (fun (hpos : 0 < l.length) (h' : t < (l[0]).1) => ((readE_ok h (fun e => by subst e; simp at hpos)).trans (by rw [readL_first hpos h']) : readE l t = ((l[0]).2, 0)))
    have HV2 := Lib.hid (fun (j : Nat) (hj : j + 1 = l.length) (h' : ∀ i (hi : i < l.length), i < j + 1 → (l[i]).1 ≤ t) => ((readE_ok h (fun e => by subst e; simp at hj)).trans (by rw [readL_last hj h']) : readE l t = ((l[j]).2, 0)))
    have HV3 := Lib.hid (fun (j : Nat) (hj : j + 1 < l.length) (h' : ∀ i (hi : i < l.length), i < j + 1 → (l[i]).1 ≤ t) (h2 : t < (l[j + 1]).1) => ((readE_ok h (fun e => by subst e; simp at hj)).trans (by rw [readL_mid hj h' h2]) : readE l t = (mixL l[j] l[j + 1] t, 0)))
    have HZ := Lib.hid (fun (k : Nat) (hk : k < l.length) => kst_ok hk (hz k hk))
    have HS := Lib.hid (fun (k : Nat) (hk : k < l.length) => Kn.sh (HZ.out k hk).2.2.1 (hszs _ (List.getElem_mem hk)))
    have HB := Lib.hid (fun (a b : Rat) (ha : Sh 1000 a) (hb : Sh 1000 b) (p q : Int) (hp : 0 ≤ p) (hp1 : p ≤ 100000000) (hq : 0 < q) (hq1 : q ≤ 100000000) => RetG.of4 (w0 := w0) fun w1 hw => ret_between (htab_gr htab hw) (hmx.gr hw) ha hb (by omega) (by omega) hp hp1 hq hq1)
    have HC := Lib.hid hc
    have HBB : Hid (0 < l.length → ∀ b o, a = some ⟨b, o, none⟩ → b < w0.heap.size) := fun hps b o e => by
      obtain ⟨b', o', h1, h2⟩ := hc 0 hps
      rw [e] at h1
      simp only [Option.some.injEq, Addr.mk.injEq, and_true] at h1
      obtain ⟨rfl, rfl⟩ := h1
      exact cell_lt h2.1
    have HN0 : Hid (l = [] → readE l t = (⟨#[]⟩, 12)) := fun e => by subst e; exact readE_nil t
    obtain ⟨r, hr⟩ : ∃ r, readE l t = r := ⟨_, rfl⟩
    rw [hr] at HV1 HV2 HV3 HN0 ⊢
    obtain ⟨t0, t1⟩ := ht
    clear hc hf hz hszs h hr htab hmx herr
    unfold vSI
    refine (callsIn_wide (n := 3)).1 ?_
    refine callsIn_of_wp_marks Tryz.func36 rfl trivial ?_ rfl
    simp only [Tryz.ntmps36, List.size_toArray, List.length_cons, List.length_nil, Nat.reduceAdd, Nat.reduceSub, Array.replicate_succ, Array.replicate_zero, List.push_toArray, List.append_toArray, List.nil_append, List.cons_append]
    gi_wp2_with (first
      | (refine ⟨trivial, ?_⟩; gi_at_call 70; refine (callsIn_wide.2 (C.out _ HG.out)).mono ?_; rintro e w1 ⟨rfl, hg1⟩)
      | (refine ⟨trivial, ?_⟩; gi_at_call 71; refine (callsIn_wide.2 (gk_succ _ _ _ _)).mono ?_; rintro e w2 ⟨rfl, rfl⟩))
    have hw1 : w.heap.size + 3 ≤ w1.heap.size := by have := hg1.size; simp only [World.size_alloc] at this; omega
    have hcb : (w1.alloc (.cells #[.slice a l.length cap] 50)).cell? ⟨w1.heap.size, 0, none⟩ = some (.slice a l.length cap) := by rw [World.cell?_alloc_at _ _ _ _ rfl]; rfl
    have hg4 : Gr w1 (w1.alloc (.cells #[.slice a l.length cap] 50)) := (Gr.refl w1).alloc _
    have hs4 : w1.heap.size < (w1.alloc (.cells #[.slice a l.length cap] 50)).heap.size := by simp
    generalize hB : w1.heap.size = B at *
    generalize hW4 : w1.alloc (.cells #[.slice a l.length cap] 50) = W4 at *
    have hgb : Gr (boxW w t) W4 := Gr.trans hg1 hg4
    have hg0 : Gr w0 W4 := Gr.trans HG.out hgb
    have HR4 := Lib.hid (HRB.out.gr hgb)
    have HT4 := Lib.hid (gr_cell hgb HTB.out)
    have hsw : w0.heap.size ≤ W4.heap.size := hg0.size
    have HC4 := Lib.hid (HC.out.gr hg0)
    have HSa : Hid (∀ g off, l ≠ [] → a = some ⟨g, off, none⟩ → g < W4.heap.size) := fun g off hne e => by
      have hpos : 0 < l.length := List.length_pos_iff.2 hne
      obtain ⟨b, o, h1, h2⟩ := HC4.out 0 hpos
      rw [e] at h1
      simp only [Option.some.injEq, Addr.mk.injEq, and_true] at h1
      obtain ⟨rfl, rfl⟩ := h1
      have := cell_lt h2.1
      exact this
    clear hg1 HRB HTB hg4 hW4 HC hgb
    refine wp_roundsA (gf := 97) (lb := #[.pointer (some ⟨B, 0, none⟩)]) rfl (enters_of Tryz.func97 (by kernel_rfl) rfl) (S := fun k => k < W4.heap.size) (fun k hk => hk)
      (k_rounds l a cap B _ W4 HC4.out hlc hcm hs4 HSa.out (fun k hk => hk) hcb (by omega)) (succK_size a l cap)
      (fun k W => Gr W4 W ∧ (k = 0 ∨ k < l.length) ∧ (0 < k → ∀ j (hj : j < l.length), j ≤ k → (l[j]).1 ≤ t))
      (fun c W => c = .ret ∧ Gr w0 W ∧ W.cell? ⟨w.heap.size + 1, 0, none⟩ = some (.string r.1) ∧ W.cell? ⟨w.heap.size + 1 + 1, 0, none⟩ = some (.int .i64 r.2))
      (fun s A B row hs hg hr => ⟨Below.grown hs.1 hg hs.1.size (fun k e => (hr k e).1), hs.2⟩)
      (fun c s A B row hs hg hr => ⟨hs.1, Below.grown hs.2.1 hg hs.2.1.size (fun k e => Nat.le_trans hsw (hr k e).1), cell_kept hs.2.2.1 hg (fun r e => (hr r e).2), cell_kept hs.2.2.2 hg (fun r e => (hr r e).2)⟩)
      ⟨Gr.refl W4, .inl rfl, fun h => absurd h (by omega)⟩
      (fun k a1 W => ∃ (hk : k < l.length) (G : Nat), a1 = { tmps := #[.slice a l.length cap, .int .i64 t, undef, .pointer (some ⟨w.heap.size, 0, none⟩), .pointer (some ⟨w.heap.size + 1, 0, none⟩), .pointer (some ⟨w.heap.size + 1 + 1, 0, none⟩), .int .i64 0, .pointer (some ⟨G, 0, none⟩), .slice (tlA a cap k 2) (l.length - (k + 1)) (cap - (k + 1)),
          .slice a l.length cap, .int .i64 0, .int .i64 0, .bool false, undef, .slice a l.length cap, .func (.func 97) #[] #[.pointer (some ⟨B, 0, none⟩)], vKn l[k], .slice (tlA a cap k 2) (l.length - (k + 1)) (cap - (k + 1)),
          undef, undef, undef, undef, undef, undef, undef, undef, undef, undef, undef, undef, undef, undef, undef, undef, undef, undef, undef, undef, undef, undef, undef, undef, undef, undef, undef, undef, undef, undef, undef, undef, undef, undef, undef, undef, undef, undef, undef], defers := [] } ∧
        KnAt W G 0 l[k] ∧ Gr W4 W ∧ (0 < k → ∀ j (hj : j < l.length), j ≤ k → (l[j]).1 ≤ t) ∧ W4.heap.size ≤ G)
      (fun s A B row hs hg hr => by
        obtain ⟨hk, G, e, ⟨b0, b1⟩, h1, h2⟩ := hs
        exact ⟨hk, G, e, ⟨cell_kept b0 hg (fun r e => (hr r e).2), cell_kept b1 hg (fun r e => (hr r e).2)⟩, Below.grown h1 hg h1.size (fun k e => (hr k e).1), h2⟩)
      ?assign ?body ?done ?stop
    case assign =>
      rintro y k W hW hk ⟨h1, -, h2⟩
      rw [succK_at hk]
      have HB := Lib.hid (KnAt.new W (l[k]).1 (l[k]).2 64)
      gi_wp2
      exact ⟨⟨hk, W.heap.size, rfl, HB.out, h1.alloc _, h2, h1.size⟩, (Gr.refl W).alloc _⟩
    case body =>
      rintro y k a1 W _ ⟨hk, G, rfl, hbox, hgr, hst, hG⟩
      obtain ⟨k0, k1⟩ := id hbox
      simp only [Nat.zero_add] at k0 k1
      have HBX := Lib.hid hbox
      have htc := gr_cell hgr HT4.out
      have hrb := HR4.out.gr hgr
      have HRW := Lib.hid hrb
      obtain ⟨r0, r1, r2, r3⟩ := id hrb
      clear hrb
      have hgw : Gr w0 W := Gr.trans hg0 hgr
      have HGW := Lib.hid hgw
      have HHG := Lib.hid hgr
      have HST := Lib.hid hst
      have hb4 : w.heap.size + 1 + 1 < W4.heap.size := cell_lt HR4.out.c1
      obtain ⟨gx, gs, hgk⟩ : ∃ gx gs, l[k] = (gx, gs) := ⟨_, _, rfl⟩
      rw [hgk] at k0 k1
      simp only at k0 k1
      by_cases hlast : l.length - (k + 1) = 0
      · have HVV : Hid (r = (gs, 0)) := by
          by_cases hlt : t < gx
          · have hk0 : k = 0 := by
              rcases Nat.eq_zero_or_pos k with h | h
              · exact h
              · have := hst h k hk (Nat.le_refl _); rw [hgk] at this; simp only at this; omega
            subst hk0
            have e := HV1.out hk (by rw [hgk]; exact hlt)
            rw [hgk] at e; exact e
          · have e := HV2.out k (by omega) (fun i hi hik => by
              rcases Nat.eq_zero_or_pos k with h | h
              · have : i = k := by omega
                subst this; rw [hgk]; simp only; omega
              · exact hst h i hi (by omega))
            rw [hgk] at e; exact e
        rw [hlast]
        rw [hgk]
        clear hst hgr hgw hbox hgk HV1 HV2 HV3 HZ HS HB
        gi_wp2
        obtain ⟨F, G5⟩ := HRW.out.store gs 0 HGW.out (by omega)
        exact ⟨((Gr.refl W).keeps _).trans (((KeepsOthers.setCell _ _ _).trans (KeepsOthers.setCell _ _ _)).from _), rfl, G5, by rw [HVV.out]; exact F.c0, by rw [HVV.out]; exact F.c1⟩
      · have hk1 : k + 1 < l.length := by omega
        obtain ⟨b, o, rfl, hat⟩ := HC4.out (k + 1) hk1
        have hta : tlA (some ⟨b, o, none⟩) cap k 2 = some ⟨b, o + (k + 1) * 2, none⟩ := by
          unfold tlA
          rw [if_neg (by omega)]
          simp [WideShapes.add_plain]
        rw [hta]
        obtain ⟨n0, n1⟩ := hat.gr hgr
        obtain ⟨nx, ns, hgn⟩ : ∃ nx ns, l[k + 1] = (nx, ns) := ⟨_, _, rfl⟩
        rw [hgn] at n0 n1
        simp only at n0 n1
        have hpos : ((l.length - (k + 1) : Nat) : Int) > 0 := by omega
        have hz : (((l.length - (k + 1) : Nat) : Int) == 0) = false := by simp; omega
        have HM : Hid (l.length - (k + 1) = l.length - (k + 1)) := Lib.hid rfl
        by_cases hlt : t < gx
        · have hk0 : k = 0 := by
            rcases Nat.eq_zero_or_pos k with h | h
            · exact h
            · have := hst h k hk (Nat.le_refl _); rw [hgk] at this; simp only at this; omega
          have HVV : Hid (r = (gs, 0)) := by
            subst hk0
            have e := HV1.out hk (by rw [hgk]; exact hlt)
            rw [hgk] at e; exact e
          generalize hm : l.length - (k + 1) = m at *
          rw [hgk]
          clear hst hgr hgw hbox hgk HV1 HV2 HV3 HZ HS HB hat hta hgn hk0
          gi_wp2
          obtain ⟨F, G5⟩ := HRW.out.store gs 0 HGW.out (by omega)
          exact ⟨((Gr.refl W).keeps _).trans (((KeepsOthers.setCell _ _ _).trans (KeepsOthers.setCell _ _ _)).from _), rfl, G5, by rw [HVV.out]; exact F.c0, by rw [HVV.out]; exact F.c1⟩
        · have hall : ∀ j (hj : j < l.length), j < k + 1 → (l[j]).1 ≤ t := fun i hi hik => by
            rcases Nat.eq_zero_or_pos k with h | h
            · have : i = k := by omega
              subst this; rw [hgk]; simp only; omega
            · exact hst h i hi (by omega)
          have hge : gx ≤ t := by omega
          obtain ⟨gz0, gz1, -, -⟩ := HZ.out k hk
          obtain ⟨nz0, nz1, -, -⟩ := HZ.out (k + 1) hk1
          rw [hgk] at gz0 gz1
          rw [hgn] at nz0 nz1
          simp only at gz0 gz1 nz0 nz1
          by_cases hn : t < nx
          · have e := HV3.out k hk1 hall (by rw [hgn]; exact hn)
            obtain ⟨ga, ge1, ge2, ge3⟩ := HS.out k hk
            obtain ⟨na, ne1, ne2, ne3⟩ := HS.out (k + 1) hk1
            rw [hgk] at e ge1 ge2
            rw [hgn] at e ne1 ne2
            unfold mixL at e
            simp only at e ge1 ge2 ne1 ne2
            rw [ge2, ne2] at e
            have K := HB.out ga na ge3 ne3 (t - gx) (nx - gx) (by omega) (by omega) (by omega) (by omega)
            rw [← ge1, ← ne1] at K
            have K := Lib.hid K
            generalize RT (ga + (na - ga) * Rat.divInt (t - gx) (nx - gx)) = v at *
            have HVV := Lib.hid e
            have hwr1 : IntKind.i64.wrap (t - gx) = t - gx := IntWalk.i64_in _ (by omega)
            have hwr2 : IntKind.i64.wrap (nx - gx) = nx - gx := IntWalk.i64_in _ (by omega)
            generalize hm : l.length - (k + 1) = m at *
            rw [hgk]
            clear hst hgr hgw hbox hgk HV1 HV2 HV3 HZ HS HB hat hta hgn e ge1 ge2 ge3 ne1 ne2 ne3 hall
            have hS5 : (fun w' : World => w'.cell? ⟨G, 0, none⟩ = some (.int .i64 gx) ∧ w'.cell? ⟨G, 1, none⟩ = some (.string gs) ∧ w'.cell? ⟨b, o + (k + 1) * 2, none⟩ = some (.int .i64 nx) ∧ w'.cell? ⟨b, o + (k + 1) * 2 + 1, none⟩ = some (.string ns) ∧ w'.cell? ⟨w.heap.size, 0, none⟩ = some (.int .i64 t)) W.drew.drew := ⟨k0, k1, n0, n1, htc⟩
            have hbw : b < w.heap.size := Nat.lt_of_lt_of_le (HBB.out (by omega) _ _ rfl) hsz
            have HHR := Lib.hid (HRW.out.gr ((Gr.refl W).drew).drew)
            have HGD := Lib.hid (HGW.out.drew.drew)
            have HK0 := Lib.hid ((Gr.refl W).drew).drew
            gi_wp2
            gi_region_with (fail)
            all_goals
              gi_wp2
              refine wpIn_region_any (by kernel_rfl) (wpAnyIn_of_wpAny (noDefer_spec (by kernel_rfl)) (by rintro ⟨a, w, h⟩; exact h) _ _ _ _ (wpAny_of_held (S := fun w' : World => w'.cell? ⟨G, 0, none⟩ = some (.int .i64 gx) ∧ w'.cell? ⟨G, 1, none⟩ = some (.string gs) ∧ w'.cell? ⟨b, o + (k + 1) * 2, none⟩ = some (.int .i64 nx) ∧ w'.cell? ⟨b, o + (k + 1) * 2 + 1, none⟩ = some (.string ns) ∧ w'.cell? ⟨w.heap.size, 0, none⟩ = some (.int .i64 t)) _ _ _ _ ?_))
              change wpAnyH _ _ _ _ _ _ _ _ W.drew.drew
              have hS0 := hS5
              clear hS5 k0 k1 n0 n1 htc r0 r1 r2 r3
              generalize W.drew.drew = W7 at *
              refine wpAnyH_take (i := 0) (v := .pointer (some ⟨G, 1, none⟩)) rfl (by kernel_rfl) (by kernel_rfl) (by kernel_rfl) (fun _ _ _ h => h) (Or.inl ⟨by rfl, ?_⟩) hS0 ?_
              · intro w hSw; obtain ⟨s1, s2, s3, s4, s5⟩ := hSw; go_simp
              try simp only [Act.put, List.getElem_toArray, List.getElem_cons_succ, List.getElem_cons_zero, List.setIfInBounds_toArray, List.set_cons_zero, List.set_cons_succ]
              refine wpAnyH_take (i := 1) (v := .string gs) rfl (by kernel_rfl) (by kernel_rfl) (by kernel_rfl) (fun _ _ _ h => h) (Or.inl ⟨by rfl, ?_⟩) hS0 ?_
              · intro w hSw; obtain ⟨s1, s2, s3, s4, s5⟩ := hSw; go_simp
              try simp only [Act.put, List.getElem_toArray, List.getElem_cons_succ, List.getElem_cons_zero, List.setIfInBounds_toArray, List.set_cons_zero, List.set_cons_succ]
              refine wpAnyH_take (i := 2) (v := .slice (some ⟨b, o + (k + 1) * 2, none⟩) m (cap - (k + 1))) rfl (by kernel_rfl) (by kernel_rfl) (by kernel_rfl) (fun _ _ _ h => h) (Or.inl ⟨by rfl, ?_⟩) hS0 ?_
              · intro w hSw; obtain ⟨s1, s2, s3, s4, s5⟩ := hSw; go_simp
              try simp only [Act.put, List.getElem_toArray, List.getElem_cons_succ, List.getElem_cons_zero, List.setIfInBounds_toArray, List.set_cons_zero, List.set_cons_succ]
              refine wpAnyH_take (i := 3) (v := .pointer (some ⟨b, o + (k + 1) * 2, none⟩)) rfl (by kernel_rfl) (by kernel_rfl) (by kernel_rfl) (fun _ _ _ h => h) (Or.inl ⟨by rfl, ?_⟩) hS0 ?_
              · intro w hSw; obtain ⟨s1, s2, s3, s4, s5⟩ := hSw; go_simp
              try simp only [Act.put, List.getElem_toArray, List.getElem_cons_succ, List.getElem_cons_zero, List.setIfInBounds_toArray, List.set_cons_zero, List.set_cons_succ]
              refine wpAnyH_take (i := 4) (v := .pointer (some ⟨b, o + (k + 1) * 2 + 1, none⟩)) rfl (by kernel_rfl) (by kernel_rfl) (by kernel_rfl) (fun _ _ _ h => h) (Or.inl ⟨by rfl, ?_⟩) hS0 ?_
              · intro w hSw; obtain ⟨s1, s2, s3, s4, s5⟩ := hSw; go_simp
              try simp only [Act.put, List.getElem_toArray, List.getElem_cons_succ, List.getElem_cons_zero, List.setIfInBounds_toArray, List.set_cons_zero, List.set_cons_succ]
              refine wpAnyH_take (i := 5) (v := .string ns) rfl (by kernel_rfl) (by kernel_rfl) (by kernel_rfl) (fun _ _ _ h => h) (Or.inl ⟨by rfl, ?_⟩) hS0 ?_
              · intro w hSw; obtain ⟨s1, s2, s3, s4, s5⟩ := hSw; go_simp
              try simp only [Act.put, List.getElem_toArray, List.getElem_cons_succ, List.getElem_cons_zero, List.setIfInBounds_toArray, List.set_cons_zero, List.set_cons_succ]
              refine wpAnyH_take (i := 6) (v := .int .i64 t) rfl (by kernel_rfl) (by kernel_rfl) (by kernel_rfl) (fun _ _ _ h => h) (Or.inl ⟨by rfl, ?_⟩) hS0 ?_
              · intro w hSw; obtain ⟨s1, s2, s3, s4, s5⟩ := hSw; go_simp
              try simp only [Act.put, List.getElem_toArray, List.getElem_cons_succ, List.getElem_cons_zero, List.setIfInBounds_toArray, List.set_cons_zero, List.set_cons_succ]
              refine wpAnyH_take (i := 7) (v := .pointer (some ⟨G, 0, none⟩)) rfl (by kernel_rfl) (by kernel_rfl) (by kernel_rfl) (fun _ _ _ h => h) (Or.inl ⟨by rfl, ?_⟩) hS0 ?_
              · intro w hSw; obtain ⟨s1, s2, s3, s4, s5⟩ := hSw; go_simp
              try simp only [Act.put, List.getElem_toArray, List.getElem_cons_succ, List.getElem_cons_zero, List.setIfInBounds_toArray, List.set_cons_zero, List.set_cons_succ]
              refine wpAnyH_take (i := 8) (v := .int .i64 gx) rfl (by kernel_rfl) (by kernel_rfl) (by kernel_rfl) (fun _ _ _ h => h) (Or.inl ⟨by rfl, ?_⟩) hS0 ?_
              · intro w hSw; obtain ⟨s1, s2, s3, s4, s5⟩ := hSw; go_simp
              try simp only [Act.put, List.getElem_toArray, List.getElem_cons_succ, List.getElem_cons_zero, List.setIfInBounds_toArray, List.set_cons_zero, List.set_cons_succ]
              refine wpAnyH_take (i := 9) (v := .int .i64 (t - gx)) rfl (by kernel_rfl) (by kernel_rfl) (by kernel_rfl) (fun _ _ _ h => h) (Or.inl ⟨by rfl, ?_⟩) hS0 ?_
              · intro w hSw; obtain ⟨s1, s2, s3, s4, s5⟩ := hSw; go_simp
              try simp only [Act.put, List.getElem_toArray, List.getElem_cons_succ, List.getElem_cons_zero, List.setIfInBounds_toArray, List.set_cons_zero, List.set_cons_succ]
              refine wpAnyH_take (i := 10) (v := .slice (some ⟨b, o + (k + 1) * 2, none⟩) m (cap - (k + 1))) rfl (by kernel_rfl) (by kernel_rfl) (by kernel_rfl) (fun _ _ _ h => h) (Or.inl ⟨by rfl, ?_⟩) hS0 ?_
              · intro w hSw; obtain ⟨s1, s2, s3, s4, s5⟩ := hSw; go_simp
              try simp only [Act.put, List.getElem_toArray, List.getElem_cons_succ, List.getElem_cons_zero, List.setIfInBounds_toArray, List.set_cons_zero, List.set_cons_succ]
              refine wpAnyH_take (i := 11) (v := .pointer (some ⟨b, o + (k + 1) * 2, none⟩)) rfl (by kernel_rfl) (by kernel_rfl) (by kernel_rfl) (fun _ _ _ h => h) (Or.inl ⟨by rfl, ?_⟩) hS0 ?_
              · intro w hSw; obtain ⟨s1, s2, s3, s4, s5⟩ := hSw; go_simp
              try simp only [Act.put, List.getElem_toArray, List.getElem_cons_succ, List.getElem_cons_zero, List.setIfInBounds_toArray, List.set_cons_zero, List.set_cons_succ]
              refine wpAnyH_take (i := 12) (v := .pointer (some ⟨b, o + (k + 1) * 2, none⟩)) rfl (by kernel_rfl) (by kernel_rfl) (by kernel_rfl) (fun _ _ _ h => h) (Or.inl ⟨by rfl, ?_⟩) hS0 ?_
              · intro w hSw; obtain ⟨s1, s2, s3, s4, s5⟩ := hSw; go_simp
              try simp only [Act.put, List.getElem_toArray, List.getElem_cons_succ, List.getElem_cons_zero, List.setIfInBounds_toArray, List.set_cons_zero, List.set_cons_succ]
              refine wpAnyH_take (i := 13) (v := .int .i64 nx) rfl (by kernel_rfl) (by kernel_rfl) (by kernel_rfl) (fun _ _ _ h => h) (Or.inl ⟨by rfl, ?_⟩) hS0 ?_
              · intro w hSw; obtain ⟨s1, s2, s3, s4, s5⟩ := hSw; go_simp
              try simp only [Act.put, List.getElem_toArray, List.getElem_cons_succ, List.getElem_cons_zero, List.setIfInBounds_toArray, List.set_cons_zero, List.set_cons_succ]
              refine wpAnyH_take (i := 14) (v := .pointer (some ⟨G, 0, none⟩)) rfl (by kernel_rfl) (by kernel_rfl) (by kernel_rfl) (fun _ _ _ h => h) (Or.inl ⟨by rfl, ?_⟩) hS0 ?_
              · intro w hSw; obtain ⟨s1, s2, s3, s4, s5⟩ := hSw; go_simp
              try simp only [Act.put, List.getElem_toArray, List.getElem_cons_succ, List.getElem_cons_zero, List.setIfInBounds_toArray, List.set_cons_zero, List.set_cons_succ]
              refine wpAnyH_take (i := 15) (v := .int .i64 gx) rfl (by kernel_rfl) (by kernel_rfl) (by kernel_rfl) (fun _ _ _ h => h) (Or.inl ⟨by rfl, ?_⟩) hS0 ?_
              · intro w hSw; obtain ⟨s1, s2, s3, s4, s5⟩ := hSw; go_simp
              try simp only [Act.put, List.getElem_toArray, List.getElem_cons_succ, List.getElem_cons_zero, List.setIfInBounds_toArray, List.set_cons_zero, List.set_cons_succ]
              refine wpAnyH_take (i := 16) (v := .int .i64 (nx - gx)) rfl (by kernel_rfl) (by kernel_rfl) (by kernel_rfl) (fun _ _ _ h => h) (Or.inl ⟨by rfl, ?_⟩) hS0 ?_
              · intro w hSw; obtain ⟨s1, s2, s3, s4, s5⟩ := hSw; go_simp
              try simp only [Act.put, List.getElem_toArray, List.getElem_cons_succ, List.getElem_cons_zero, List.setIfInBounds_toArray, List.set_cons_zero, List.set_cons_succ]
              refine wpAnyH_ready (rs := [17]) (by kernel_rfl) (by simp) (AllReadyH.cons rfl (fun K' hK' => ?_) AllReadyH.nil)
              go_simp
              refine (K.out _ HGD.out).mono ?_
              rintro e w9 ⟨rfl, hg9⟩
              have hS9 : (fun w' : World => w'.cell? ⟨G, 0, none⟩ = some (.int .i64 gx) ∧ w'.cell? ⟨G, 1, none⟩ = some (.string gs) ∧ w'.cell? ⟨b, o + (k + 1) * 2, none⟩ = some (.int .i64 nx) ∧ w'.cell? ⟨b, o + (k + 1) * 2 + 1, none⟩ = some (.string ns) ∧ w'.cell? ⟨w.heap.size, 0, none⟩ = some (.int .i64 t)) w9 := ⟨gr_cell hg9 hS0.1, gr_cell hg9 hS0.2.1, gr_cell hg9 hS0.2.2.1, gr_cell hg9 hS0.2.2.2.1, gr_cell hg9 hS0.2.2.2.2⟩
              have HR9 := Lib.hid (HHR.out.gr hg9)
              have HG9 := Lib.hid (Gr.trans HGD.out hg9)
              have HK9 := Lib.hid (Gr.trans HK0.out hg9)
              clear hg9 hS0
              refine hK'.out _ _ hS9 (fun hS0' => ?_)
              clear hK' K' hS9
              have hS0 := hS0'
              clear hS0'
              try simp only [Act.put, List.getElem_toArray, List.getElem_cons_succ, List.getElem_cons_zero, List.setIfInBounds_toArray, List.set_cons_zero, List.set_cons_succ]
              refine wpAnyH_take (i := 18) (v := .string v) rfl (by kernel_rfl) (by kernel_rfl) (by kernel_rfl) (fun _ _ _ h => h) (Or.inl ⟨by rfl, ?_⟩) hS0 ?_
              · intro w hSw; obtain ⟨s1, s2, s3, s4, s5⟩ := hSw; go_simp
              try simp only [Act.put, List.getElem_toArray, List.getElem_cons_succ, List.getElem_cons_zero, List.setIfInBounds_toArray, List.set_cons_zero, List.set_cons_succ]
              refine wpAnyH_take (i := 19) (v := .int .i64 0) rfl (by kernel_rfl) (by kernel_rfl) (by kernel_rfl) (fun _ _ _ h => h) (Or.inl ⟨by rfl, ?_⟩) hS0 ?_
              · intro w hSw; obtain ⟨s1, s2, s3, s4, s5⟩ := hSw; go_simp
              try simp only [Act.put, List.getElem_toArray, List.getElem_cons_succ, List.getElem_cons_zero, List.setIfInBounds_toArray, List.set_cons_zero, List.set_cons_succ]
              obtain ⟨q0, q1, q2, q3⟩ := id HR9.out
              refine wpAnyH_ready (rs := [20]) (by kernel_rfl) (by simp) (AllReadyH.cons rfl (fun K' hK' => ?_) AllReadyH.nil)
              go_simp
              refine hK'.out _ _ ⟨(World.cell?_setCell_other _ _ _ _ (addr_ne (by omega))).trans hS0.1, (World.cell?_setCell_other _ _ _ _ (addr_ne (by omega))).trans hS0.2.1, (World.cell?_setCell_other _ _ _ _ (addr_ne (by omega))).trans hS0.2.2.1, (World.cell?_setCell_other _ _ _ _ (addr_ne (by omega))).trans hS0.2.2.2.1, (World.cell?_setCell_other _ _ _ _ (addr_ne (by omega))).trans hS0.2.2.2.2⟩ (fun hS0' => ?_)
              clear hK' K' hS0
              have hS0 := hS0'
              clear hS0'
              try simp only [Act.put, List.getElem_toArray, List.getElem_cons_succ, List.getElem_cons_zero, List.setIfInBounds_toArray, List.set_cons_zero, List.set_cons_succ]
              have e1 : (w9.setCell ⟨w.heap.size + 1, 0, none⟩ (.string v)).cell? ⟨w.heap.size + 1 + 1, 0, none⟩ = some (.int .i64 0) := (World.cell?_setCell_other _ _ _ _ (addr_ne (by omega))).trans q1
              have e2 : (w9.setCell ⟨w.heap.size + 1, 0, none⟩ (.string v)).frozen? ⟨w.heap.size + 1 + 1, 0, none⟩ = false := by rw [World.frozen?_setCell]; exact q3
              refine wpAnyH_ready (rs := [21]) (by kernel_rfl) (by simp) (AllReadyH.cons rfl (fun K' hK' => ?_) AllReadyH.nil)
              go_simp
              refine hK'.out _ _ ⟨(World.cell?_setCell_other _ _ _ _ (addr_ne (by omega))).trans hS0.1, (World.cell?_setCell_other _ _ _ _ (addr_ne (by omega))).trans hS0.2.1, (World.cell?_setCell_other _ _ _ _ (addr_ne (by omega))).trans hS0.2.2.1, (World.cell?_setCell_other _ _ _ _ (addr_ne (by omega))).trans hS0.2.2.2.1, (World.cell?_setCell_other _ _ _ _ (addr_ne (by omega))).trans hS0.2.2.2.2⟩ (fun hS0' => ?_)
              clear hK' K' hS0 hS0'
              try simp only [Act.put, List.getElem_toArray, List.getElem_cons_succ, List.getElem_cons_zero, List.setIfInBounds_toArray, List.set_cons_zero, List.set_cons_succ]
              refine wpAnyH_done (by kernel_rfl) ?_ _
              gi_wp2
              obtain ⟨F, G5⟩ := HR9.out.store v 0 HG9.out (by omega)
              exact ⟨(HK9.out.keeps _).trans (((KeepsOthers.setCell _ _ _).trans (KeepsOthers.setCell _ _ _)).from _), rfl, G5, by rw [HVV.out]; exact F.c0, by rw [HVV.out]; exact F.c1⟩
          · have HALL : Hid (∀ j (hj : j < l.length), j ≤ k + 1 → (l[j]).1 ≤ t) := fun i hi hik => by
              by_cases e : i = k + 1
              · subst e; rw [hgn]; simp only; omega
              · exact hall i hi (by omega)
            generalize hm : l.length - (k + 1) = m at *
            rw [hgk]
            clear hst hgr hgw hbox hgk HV1 HV2 HV3 HZ HS HB hat hta hgn hall
            gi_wp2
            gi_region_with (fail)
            all_goals
              gi_wp2
              exact ⟨((Gr.refl W).drew).keeps _, KeepB.gr ((Gr.refl W).drew) (fun k' hk' => Nat.lt_of_lt_of_le hk' HHG.out.size), HHG.out.drew, .inr hk1, fun _ => HALL.out⟩
    case done =>
      rintro D W hD ⟨hgr, hor, -⟩ hK
      have hnil : l = [] := List.eq_nil_of_length_eq_zero (by omega)
      have HVV := Lib.hid (HN0.out hnil)
      have hrb := HR4.out.gr hgr
      have HRW := Lib.hid hrb
      obtain ⟨r0, r1, r2, r3⟩ := id hrb
      obtain ⟨F, G5⟩ := hrb.store ⟨#[]⟩ 12 (Gr.trans hg0 hgr) (by omega)
      have hb4 : w.heap.size + 1 + 1 < W4.heap.size := cell_lt HR4.out.c1
      clear hrb
      gi_wp2
      have hK' := ((KeepsOthers.setCell W ⟨w.heap.size + 1, 0, none⟩ (.string ⟨#[]⟩)).trans (KeepsOthers.setCell _ ⟨w.heap.size + 1 + 1, 0, none⟩ (.int .i64 12))).same D _ hK rfl
      generalize (W.setCell ⟨w.heap.size + 1, 0, none⟩ (.string ⟨#[]⟩)).setCell ⟨w.heap.size + 1 + 1, 0, none⟩ (.int .i64 12) = X at *
      have hc0' : (X.putObj D (.deferred none)).cell? ⟨w.heap.size + 1, 0, none⟩ = some (.string ⟨#[]⟩) := cell_kept F.c0 (grownBy_putObj' _ D (.deferred none)) (fun r e => by cases e; exact ⟨_, hK', rfl⟩)
      have hc1' : (X.putObj D (.deferred none)).cell? ⟨w.heap.size + 1 + 1, 0, none⟩ = some (.int .i64 12) := cell_kept F.c1 (grownBy_putObj' _ D (.deferred none)) (fun r e => by cases e; exact ⟨_, hK', rfl⟩)
      refine ⟨by simp, .inl ⟨_, _, rfl, run_takeDeferred hK', ?_⟩⟩
      refine ⟨.tuple #[.string ⟨#[]⟩, .int .i64 12], ?_, by rw [HVV.out], Below.trans G5 (below_putObj (by omega))⟩
      simp [results, Tryz.results36, go_sem, hc0', hc1']
    case stop =>
      rintro D c W hD ⟨rfl, hgr, hc0, hc1⟩ hK
      gi_wp2
      have hc0' : (W.putObj D (.deferred none)).cell? ⟨w.heap.size + 1, 0, none⟩ = some (.string r.1) := cell_kept hc0 (grownBy_putObj' _ D (.deferred none)) (fun r e => by cases e; exact ⟨_, hK, rfl⟩)
      have hc1' : (W.putObj D (.deferred none)).cell? ⟨w.heap.size + 1 + 1, 0, none⟩ = some (.int .i64 r.2) := cell_kept hc1 (grownBy_putObj' _ D (.deferred none)) (fun r e => by cases e; exact ⟨_, hK, rfl⟩)
      refine ⟨by simp, .inl ⟨_, _, rfl, run_takeDeferred hK, ?_⟩⟩
      refine ⟨.tuple #[.string r.1, .int .i64 r.2], ?_, rfl, Below.trans hgr (below_putObj (by omega))⟩
      simp [results, Tryz.results36, go_sem, hc0', hc1']
  · rw [readE_bad h]
    have hne : (knsE l != 0) = true := by simpa using h
    have C := Lib.hid C
    clear h hc hf hlc hcm ht htab hmx herr
    generalize knsE l = c at *
    unfold vSI
    obtain ⟨r0, r1, r2, r3⟩ := id HRB.out
    go_enter Tryz.func36, Tryz.ntmps36
    go_wp2_with fail
    refine (C.out _ HG.out).mono ?_
    rintro e w1 ⟨rfl, hg1⟩
    have hR := HRB.out.gr hg1
    replace HG := Lib.hid (Gr.trans HG.out hg1)
    clear hg1 HRB r0 r1 r2 r3
    obtain ⟨r0, r1, r2, r3⟩ := id hR
    go_wp2
    obtain ⟨F, G⟩ := hR.store ⟨#[]⟩ c HG.out (by omega)
    exact bodyPost_ret (v := .tuple #[.string ⟨#[]⟩, .int .i64 c]) (by simp [results, Tryz.results36, go_sem, F.c0, F.c1]) rfl ⟨rfl, G⟩
end
end Go.Proofs.YtflkgkchoagphaaGreatDoor
