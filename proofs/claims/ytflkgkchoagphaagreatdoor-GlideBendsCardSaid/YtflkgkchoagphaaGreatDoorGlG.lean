/- Value of the program. -/
import Derived.Test.YtflkgkchoagphaaGreatDoorGlF
set_option linter.unusedVariables false
set_option linter.unusedSimpArgs false
namespace Go.Proofs.YtflkgkchoagphaaGreatDoor
open Go.RowKit Go.Shelf
open Z
attribute [local go_sem] Oper.semAt_some

/-- two results in blocks of their own -/
structure RB (w : World) (b : Nat) (s : ByteArray) (e : Int) : Prop where
  c0 : w.cell? ⟨b, 0, none⟩ = some (.string s)
  c1 : w.cell? ⟨b + 1, 0, none⟩ = some (.int .i64 e)
  f0 : w.frozen? ⟨b, 0, none⟩ = false
  f1 : w.frozen? ⟨b + 1, 0, none⟩ = false
theorem RB.gr {w w' : World} {b : Nat} {s : ByteArray} {e : Int} (h : RB w b s e) (hg : Gr w w') : RB w' b s e :=
  ⟨gr_cell hg h.c0, gr_cell hg h.c1, (Below.frozen hg (p := ⟨b, 0, none⟩) (cell_lt h.c0)).trans h.f0, (Below.frozen hg (p := ⟨b + 1, 0, none⟩) (cell_lt h.c1)).trans h.f1⟩
theorem RB.store {w0 w : World} {b : Nat} {s : ByteArray} {e : Int} (h : RB w b s e) (s' : ByteArray) (e' : Int) (hg : Gr w0 w) (hb : w0.heap.size ≤ b) :
    RB ((w.setCell ⟨b, 0, none⟩ (.string s')).setCell ⟨b + 1, 0, none⟩ (.int .i64 e')) b s' e' ∧ Gr w0 ((w.setCell ⟨b, 0, none⟩ (.string s')).setCell ⟨b + 1, 0, none⟩ (.int .i64 e')) := by
  have a1 : (w.setCell ⟨b, 0, none⟩ (.string s')).cell? ⟨b + 1, 0, none⟩ = some (.int .i64 e) := (World.cell?_setCell_other _ _ _ _ (by simp)).trans h.c1
  have a0 : (w.setCell ⟨b, 0, none⟩ (.string s')).cell? ⟨b, 0, none⟩ = some (.string s') := World.cell?_setCell_same _ _ _ h.c0
  refine ⟨⟨(World.cell?_setCell_other _ _ _ _ (by simp)).trans a0, World.cell?_setCell_same _ _ _ a1, ?_, ?_⟩, (Below.setCell (Below.setCell hg hb _) (by show w0.heap.size ≤ b + 1; omega) _)⟩
  · rw [World.frozen?_setCell, World.frozen?_setCell]; exact h.f0
  · rw [World.frozen?_setCell, World.frozen?_setCell]; exact h.f1
abbrev boxW (w : World) (t : Int) : World := ((w.alloc (.cells #[.int .i64 t] 3)).alloc (.cells #[.string ⟨#[]⟩] 22)).alloc (.cells #[.int .i64 0] 26)
theorem box_rb (w : World) (t : Int) : RB (boxW w t) (w.heap.size + 1) ⟨#[]⟩ 0 ∧ (boxW w t).cell? ⟨w.heap.size, 0, none⟩ = some (.int .i64 t) ∧ Gr w (boxW w t) := by
  refine ⟨⟨?_, ?_, ?_, ?_⟩, ?_, (((Gr.refl w).alloc _).alloc _).alloc _⟩
  · rw [World.cell?_alloc_past _ _ _ (by simp), World.cell?_alloc_at _ _ _ _ (by simp)]; rfl
  · rw [World.cell?_alloc_at _ _ _ _ (by simp)]; rfl
  · rw [World.frozen?_alloc_past _ _ _ (by simp)]; exact World.frozen?_alloc_at _ _ _ _ (by simp)
  · exact World.frozen?_alloc_at _ _ _ _ (by simp)
  · rw [World.cell?_alloc_past _ _ _ (by simp; omega), World.cell?_alloc_past _ _ _ (by simp), World.cell?_alloc_at _ _ _ _ rfl]; rfl
section
variable {w0 : World} (htab : Tab w0) (hmx : Mx w0) (herr : ErrR w0)
include htab hmx herr
theorem ret_at {g : Gl} {t : Int} (he : g.err = 0) (hs : g.f.size ≤ 1400) (ht : isJ t) : Ret w0 14 #[vG4 g, .int .i64 t] (.tuple #[.string (g.at t), .int .i64 0]) := by
  obtain ⟨f, x, st, ti⟩ := g
  refine (ret_GAt htab hmx herr hs ht).si ?_
  unfold atE
  rw [if_pos (show glE f x st ti = 0 from he)]
  rfl
set_option maxHeartbeats 4000000 in
set_option maxRecDepth 100000 in
theorem ret_GValue {a : Option Addr} {l : List Gl} {cap : Nat} {t : Int} (hc : RdG w0 a l) (hI : ∀ g ∈ l, g.isG) (hf : Fits l) (hlc : l.length ≤ cap) (hcm : cap ≤ maxLen) (ht : isJ t) : Ret w0 27 #[.slice a l.length cap, .int .i64 t] (vSI (valE l t)) := by
  have C := RetG.of4 (w0 := w0) fun w1 h => ret_GChain (htab_gr htab h) (hmx.gr h) (herr.gr h) (cap := cap) (hc.gr h) hI hf (by omega)
  intro w hg
  have hsz := hg.size
  obtain ⟨hrb, htb, hgb⟩ := box_rb w t
  have HRB := Lib.hid hrb
  have HTB := Lib.hid htb
  have HG := Lib.hid (Gr.trans hg hgb)
  clear hrb htb hgb
  by_cases h : chainE l = 0
  · rw [h] at C
    have C := Lib.hid C
    have hz := chainE_zero h
    have hszs := hf.sz h
    have HV := Lib.hid (fun (k : Nat) (hk : k < l.length) (h1 : ∀ j (hj : j + 1 < l.length), j < k → (l[j + 1]).st ≤ t) (h2 : ∀ hk : k + 1 < l.length, t < (l[k + 1]).st) => (valE_at h ⟨hk, h1, h2⟩ : valE l t = ((l[k]).at t, 0)))
    have HA : Hid (∀ (k : Nat) (hk : k < l.length), RetG w0 14 #[vG4 l[k], .int .i64 t] (.tuple #[.string ((l[k]).at t), .int .i64 0])) := fun k hk =>
      .of4 fun w1 hw => ret_at (htab_gr htab hw) (hmx.gr hw) (herr.gr hw) (step_zero hk (hz.2 k hk)).1 (hszs _ (List.getElem_mem hk)) ht
    have HC := Lib.hid hc
    have HN0 : Hid (l = [] → valE l t = (⟨#[]⟩, 12)) := fun e => by subst e; exact valE_nil t
    obtain ⟨r, hr⟩ : ∃ r, valE l t = r := ⟨_, rfl⟩
    rw [hr] at HV HN0 ⊢
    have hl256 := hz.1
    obtain ⟨t0, t1⟩ := ht
    clear hc hI hf hz hszs h hr htab hmx herr
    unfold vSI
    refine (callsIn_wide (n := 3)).1 ?_
    refine callsIn_of_wp_marks Tryz.func27 rfl trivial ?_ rfl
    simp only [Tryz.ntmps27, List.size_toArray, List.length_cons, List.length_nil, Nat.reduceAdd, Nat.reduceSub, Array.replicate_succ, Array.replicate_zero, List.push_toArray, List.append_toArray, List.nil_append, List.cons_append]
    gi_wp2_with (first
      | (refine ⟨trivial, ?_⟩; gi_at_call 31; refine (callsIn_wide.2 (C.out _ HG.out)).mono ?_; rintro e w1 ⟨rfl, hg1⟩)
      | (refine ⟨trivial, ?_⟩; gi_at_call 66; refine (callsIn_wide.2 (gl_succ _ _ _ _)).mono ?_; rintro e w2 ⟨rfl, rfl⟩))
    have hw1 : w.heap.size + 3 ≤ w1.heap.size := by have := hg1.size; simp only [World.size_alloc] at this; omega
    have hcb : (w1.alloc (.cells #[.slice a l.length cap] 46)).cell? ⟨w1.heap.size, 0, none⟩ = some (.slice a l.length cap) := by rw [World.cell?_alloc_at _ _ _ _ rfl]; rfl
    have hg4 : Gr w1 (w1.alloc (.cells #[.slice a l.length cap] 46)) := (Gr.refl w1).alloc _
    have hs4 : w1.heap.size < (w1.alloc (.cells #[.slice a l.length cap] 46)).heap.size := by simp
    generalize hB : w1.heap.size = B at *
    generalize hW4 : w1.alloc (.cells #[.slice a l.length cap] 46) = W4 at *
    have hgb : Gr (boxW w t) W4 := Gr.trans hg1 hg4
    have hg0 : Gr w0 W4 := Gr.trans HG.out hgb
    have HR4 := Lib.hid (HRB.out.gr hgb)
    have HT4 := Lib.hid (gr_cell hgb HTB.out)
    have hsw : w0.heap.size ≤ W4.heap.size := hg0.size
    have HC4 := Lib.hid (HC.out.gr hg0)
    have HSa : Hid (∀ g off, l ≠ [] → a = some ⟨g, off, none⟩ → g < W4.heap.size) := fun g off hne e => by
      have hpos : 0 < l.length := List.length_pos_iff.2 hne
      obtain ⟨b, o, h1, h2⟩ := HC4.out 0 hpos
      rw [e] at h1
      simp only [Option.some.injEq, Addr.mk.injEq, and_true] at h1
      obtain ⟨rfl, rfl⟩ := h1
      have := cell_lt h2.1
      exact this
    clear hg1 HRB HTB hg4 hW4 HC hgb
    refine wp_roundsA (gf := 96) (lb := #[.pointer (some ⟨B, 0, none⟩)]) rfl (enters_of Tryz.func96 (by kernel_rfl) rfl) (S := fun k => k < W4.heap.size) (fun k hk => hk)
      (g_rounds l a cap B _ W4 HC4.out hlc hcm hs4 HSa.out (fun k hk => hk) hcb (by omega)) (succG_size a l cap)
      (fun k W => Gr W4 W ∧ (k = 0 ∨ k < l.length) ∧ ∀ j (hj : j + 1 < l.length), j < k → (l[j + 1]).st ≤ t)
      (fun c W => c = .ret ∧ Gr w0 W ∧ W.cell? ⟨w.heap.size + 1, 0, none⟩ = some (.string r.1) ∧ W.cell? ⟨w.heap.size + 1 + 1, 0, none⟩ = some (.int .i64 r.2))
      (fun s A B row hs hg hr => ⟨Below.grown hs.1 hg hs.1.size (fun k e => (hr k e).1), hs.2⟩)
      (fun c s A B row hs hg hr => ⟨hs.1, Below.grown hs.2.1 hg hs.2.1.size (fun k e => Nat.le_trans hsw (hr k e).1), cell_kept hs.2.2.1 hg (fun r e => (hr r e).2), cell_kept hs.2.2.2 hg (fun r e => (hr r e).2)⟩)
      ⟨Gr.refl W4, .inl rfl, fun j _ h => absurd h (by omega)⟩
      (fun k a1 W => ∃ (hk : k < l.length) (G : Nat), a1 = { tmps := #[.slice a l.length cap, .int .i64 t, undef, .pointer (some ⟨w.heap.size, 0, none⟩), .pointer (some ⟨w.heap.size + 1, 0, none⟩), .pointer (some ⟨w.heap.size + 1 + 1, 0, none⟩), .int .i64 0, .pointer (some ⟨G, 0, none⟩), .slice (tlA a cap k 4) (l.length - (k + 1)) (cap - (k + 1)),
          .slice a l.length cap, .int .i64 0, .int .i64 0, .bool false, undef, .slice a l.length cap, .func (.func 96) #[] #[.pointer (some ⟨B, 0, none⟩)], vG4 l[k], .slice (tlA a cap k 4) (l.length - (k + 1)) (cap - (k + 1)),
          undef, undef, undef, undef, undef, undef, undef, undef, undef, undef, undef, undef, undef, undef, undef, undef], defers := [] } ∧
        Box4 W G (l[k]).f (l[k]).x (l[k]).st (l[k]).ti ∧ Gr W4 W ∧ ∀ j (hj : j + 1 < l.length), j < k → (l[j + 1]).st ≤ t)
      (fun s A B row hs hg hr => by
        obtain ⟨hk, G, e, ⟨b0, b1, b2, b3⟩, h1, h2⟩ := hs
        exact ⟨hk, G, e, ⟨cell_kept b0 hg (fun r e => (hr r e).2), cell_kept b1 hg (fun r e => (hr r e).2), cell_kept b2 hg (fun r e => (hr r e).2), cell_kept b3 hg (fun r e => (hr r e).2)⟩, Below.grown h1 hg h1.size (fun k e => (hr k e).1), h2⟩)
      ?assign ?body ?done ?stop
    case assign =>
      rintro y k W hW hk ⟨h1, -, h2⟩
      rw [succG_at hk]
      have HB := Lib.hid (Box4.new W (l[k]).f (l[k]).x (l[k]).st (l[k]).ti 24)
      gi_wp2
      exact ⟨⟨hk, W.heap.size, rfl, HB.out, h1.alloc _, h2⟩, (Gr.refl W).alloc _⟩
    case body =>
      rintro y k a1 W _ ⟨hk, G, rfl, hbox, hgr, hst⟩
      obtain ⟨k0, k1, k2, k3⟩ := id hbox
      have htc := gr_cell hgr HT4.out
      have hrb := HR4.out.gr hgr
      have HRW := Lib.hid hrb
      obtain ⟨r0, r1, r2, r3⟩ := id hrb
      clear hrb
      have hgw : Gr w0 W := Gr.trans hg0 hgr
      have HGW := Lib.hid hgw
      have HHG := Lib.hid hgr
      have A1 := HA.out k hk
      have HV1 := HV.out k hk hst
      have HST := Lib.hid hst
      have hb4 : w.heap.size + 1 + 1 < W4.heap.size := cell_lt HR4.out.c1
      by_cases hlast : l.length - (k + 1) = 0
      · have HVV := Lib.hid (HV1 (fun h' => absurd h' (by omega)))
        clear HV1
        rw [hlast]
        generalize l[k] = g at *
        obtain ⟨s, x, st, ti⟩ := g
        simp only [Gl.f, Gl.x, Gl.st, Gl.ti] at k0 k1 k2 k3 hbox
        generalize Gl.at (s, x, st, ti) t = v at *
        clear hst hgr hbox hgw
        gi_wp2
        gi_region_with (fail)
        all_goals
          gi_wp2_with (refine ⟨trivial, ?_⟩; gi_at_call 14; refine (CallsIn.inRound y (callsIn_wide.2 (A1 _ HGW.out.drew))).mono ?_; rintro e w5 ⟨rfl, hg5⟩; have hR5 := HRW.out.gr (Gr.trans (Gr.refl W).drew hg5); obtain ⟨r0, r1, r2, r3⟩ := id hR5)
          obtain ⟨F, G5⟩ := hR5.store v 0 (Gr.trans HGW.out.drew hg5) (by omega)
          exact ⟨((Gr.trans (Gr.refl W).drew hg5).keeps _).trans (((KeepsOthers.setCell _ _ _).trans (KeepsOthers.setCell _ _ _)).from _), rfl, G5, by rw [HVV.out]; exact F.c0, by rw [HVV.out]; exact F.c1⟩
      · have hk1 : k + 1 < l.length := by omega
        obtain ⟨b, o, rfl, hat⟩ := HC4.out (k + 1) hk1
        have hta : tlA (some ⟨b, o, none⟩) cap k 4 = some ⟨b, o + (k + 1) * 4, none⟩ := by
          unfold tlA
          rw [if_neg (by omega)]
          simp [WideShapes.add_plain]
        rw [hta]
        have n2 := gr_cell hgr hat.2.2.1
        obtain ⟨nst, hn⟩ : ∃ nst, Hid ((l[k + 1]).st = nst) := ⟨_, Lib.hid rfl⟩
        rw [hn.out] at n2
        have hpos : ((l.length - (k + 1) : Nat) : Int) > 0 := by omega
        have hz : (((l.length - (k + 1) : Nat) : Int) == 0) = false := by simp; omega
        generalize hm : l.length - (k + 1) = m at *
        by_cases hlt : t < nst
        · have HVV := Lib.hid (HV1 (fun h' => by rw [hn.out]; exact hlt))
          clear HV1
          generalize l[k] = g at *
          obtain ⟨s, x, st, ti⟩ := g
          simp only [Gl.f, Gl.x, Gl.st, Gl.ti] at k0 k1 k2 k3 hbox
          generalize Gl.at (s, x, st, ti) t = v at *
          clear hst hgr hbox hgw hat hta
          gi_wp2
          gi_region_with (fail)
          all_goals
            gi_wp2_with (refine ⟨trivial, ?_⟩; gi_at_call 14; refine (CallsIn.inRound y (callsIn_wide.2 (A1 _ HGW.out.drew))).mono ?_; rintro e w5 ⟨rfl, hg5⟩; have hR5 := HRW.out.gr (Gr.trans (Gr.refl W).drew hg5); obtain ⟨r0, r1, r2, r3⟩ := id hR5)
            obtain ⟨F, G5⟩ := hR5.store v 0 (Gr.trans HGW.out.drew hg5) (by omega)
            exact ⟨((Gr.trans (Gr.refl W).drew hg5).keeps _).trans (((KeepsOthers.setCell _ _ _).trans (KeepsOthers.setCell _ _ _)).from _), rfl, G5, by rw [HVV.out]; exact F.c0, by rw [HVV.out]; exact F.c1⟩
        · clear HV1 A1
          generalize l[k] = g at *
          obtain ⟨s, x, st, ti⟩ := g
          simp only [Gl.f, Gl.x, Gl.st, Gl.ti] at k0 k1 k2 k3 hbox
          clear hst hgr hbox hgw hat hta
          gi_wp2
          gi_region_with (fail)
          all_goals
            gi_wp2
            exact ⟨((Gr.refl W).drew).keeps _, KeepB.gr ((Gr.refl W).drew) (fun k' hk' => Nat.lt_of_lt_of_le hk' HHG.out.size), HHG.out.drew, .inr hk1, fun j hj hjk => by
              by_cases e : j = k
              · subst e; have := hn.out; omega
              · exact HST.out j hj (by omega)⟩
    case done =>
      rintro D W hD ⟨hgr, hor, -⟩ hK
      have hnil : l = [] := List.eq_nil_of_length_eq_zero (by omega)
      have HVV := Lib.hid (HN0.out hnil)
      have hrb := HR4.out.gr hgr
      have HRW := Lib.hid hrb
      obtain ⟨r0, r1, r2, r3⟩ := id hrb
      obtain ⟨F, G5⟩ := hrb.store ⟨#[]⟩ 12 (Gr.trans hg0 hgr) (by omega)
      have hb4 : w.heap.size + 1 + 1 < W4.heap.size := cell_lt HR4.out.c1
      clear hrb
      gi_wp2
      have hK' := ((KeepsOthers.setCell W ⟨w.heap.size + 1, 0, none⟩ (.string ⟨#[]⟩)).trans (KeepsOthers.setCell _ ⟨w.heap.size + 1 + 1, 0, none⟩ (.int .i64 12))).same D _ hK rfl
      generalize (W.setCell ⟨w.heap.size + 1, 0, none⟩ (.string ⟨#[]⟩)).setCell ⟨w.heap.size + 1 + 1, 0, none⟩ (.int .i64 12) = X at *
      have hc0' : (X.putObj D (.deferred none)).cell? ⟨w.heap.size + 1, 0, none⟩ = some (.string ⟨#[]⟩) := cell_kept F.c0 (grownBy_putObj' _ D (.deferred none)) (fun r e => by cases e; exact ⟨_, hK', rfl⟩)
      have hc1' : (X.putObj D (.deferred none)).cell? ⟨w.heap.size + 1 + 1, 0, none⟩ = some (.int .i64 12) := cell_kept F.c1 (grownBy_putObj' _ D (.deferred none)) (fun r e => by cases e; exact ⟨_, hK', rfl⟩)
      refine ⟨by simp, .inl ⟨_, _, rfl, run_takeDeferred hK', ?_⟩⟩
      refine ⟨.tuple #[.string ⟨#[]⟩, .int .i64 12], ?_, by rw [HVV.out], Below.trans G5 (below_putObj (by omega))⟩
      simp [results, Tryz.results27, go_sem, hc0', hc1']
    case stop =>
      rintro D c W hD ⟨rfl, hgr, hc0, hc1⟩ hK
      gi_wp2
      have hc0' : (W.putObj D (.deferred none)).cell? ⟨w.heap.size + 1, 0, none⟩ = some (.string r.1) := cell_kept hc0 (grownBy_putObj' _ D (.deferred none)) (fun r e => by cases e; exact ⟨_, hK, rfl⟩)
      have hc1' : (W.putObj D (.deferred none)).cell? ⟨w.heap.size + 1 + 1, 0, none⟩ = some (.int .i64 r.2) := cell_kept hc1 (grownBy_putObj' _ D (.deferred none)) (fun r e => by cases e; exact ⟨_, hK, rfl⟩)
      refine ⟨by simp, .inl ⟨_, _, rfl, run_takeDeferred hK, ?_⟩⟩
      refine ⟨.tuple #[.string r.1, .int .i64 r.2], ?_, rfl, Below.trans hgr (below_putObj (by omega))⟩
      simp [results, Tryz.results27, go_sem, hc0', hc1']
  · rw [valE_ne h]
    have hne : (chainE l != 0) = true := by simpa using h
    have C := Lib.hid C
    clear h hc hI hf hlc hcm ht htab hmx herr
    generalize chainE l = c at *
    unfold vSI
    obtain ⟨r0, r1, r2, r3⟩ := id HRB.out
    go_enter Tryz.func27, Tryz.ntmps27
    go_wp2_with fail
    refine (C.out _ HG.out).mono ?_
    rintro e w1 ⟨rfl, hg1⟩
    have hR := HRB.out.gr hg1
    replace HG := Lib.hid (Gr.trans HG.out hg1)
    clear hg1 HRB r0 r1 r2 r3
    obtain ⟨r0, r1, r2, r3⟩ := id hR
    go_wp2
    obtain ⟨F, G⟩ := hR.store ⟨#[]⟩ c HG.out (by omega)
    exact bodyPost_ret (v := .tuple #[.string ⟨#[]⟩, .int .i64 c]) (by simp [results, Tryz.results27, go_sem, F.c0, F.c1]) rfl ⟨rfl, G⟩
end
end Go.Proofs.YtflkgkchoagphaaGreatDoor
