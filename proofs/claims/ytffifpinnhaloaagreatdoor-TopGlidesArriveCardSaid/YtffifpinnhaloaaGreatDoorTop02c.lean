/- Chains that are made by overtaking, as the top laws make them. -/
import Derived.Test.YtffifpinnhaloaaGreatDoorTop02a
import Derived.Test.YtffifpinnhaloaaGreatDoorGlP
set_option linter.unusedVariables false
set_option linter.unusedSimpArgs false
namespace Go.Proofs.YtffifpinnhaloaaGreatDoor
open Go.RowKit Go.Shelf
open Z

theorem Tryz.infoGlide : (Tryz.prog.info? 24).map (fun i => (i.zero, i.size, i.bytes)) = some (some (.agg #[.string ⟨#[]⟩, .int .i64 0, .int .i64 0, .int .i64 0]), 4, 40) := by kernel_rfl
/-- the first k turns have made the chain -/
def Part (g : Gl) (l : List T3) (k : Nat) (ch : List Gl) : Prop :=
  ch.length = k + 1 ∧ ch.head? = some g ∧ chainE ch = 0 ∧ (∀ x ∈ ch, x.f.size ≤ 200 ∧ x.isG) ∧ ∀ j (h : j < l.length), j < k → ∃ c, ch[j + 1]? = some c ∧ c.st = l[j].1 ∧ c.x = l[j].2.1 ∧ c.ti = l[j].2.2
theorem Part.start {g : Gl} (l : List T3) (he : g.err = 0) (hs : g.f.size ≤ 200) (hg : g.isG) : Part g l 0 [g] :=
  ⟨rfl, rfl, chainE_one he, fun x hx => by simp only [List.mem_singleton] at hx; subst hx; exact ⟨hs, hg⟩, fun j _ h => absurd h (by omega)⟩
theorem Part.last {g : Gl} {l : List T3} {k : Nat} {ch : List Gl} (h : Part g l k ch) : ∃ (r : List Gl) (p : Gl), ch = r ++ [p] ∧ r.length = k ∧ p.err = 0 ∧ p.f.size ≤ 200 ∧ p.isG := by
  have hne : ch ≠ [] := fun e => by have := h.1; rw [e] at this; simp at this
  refine ⟨ch.dropLast, ch.getLast hne, (List.dropLast_concat_getLast hne).symm, by rw [List.length_dropLast, h.1]; omega, (facts_of h.2.2.1).1 _ (List.getLast_mem hne), h.2.2.2.1 _ (List.getLast_mem hne)⟩
theorem Part.push {g : Gl} {l : List T3} {k : Nat} {r : List Gl} {p n : Gl} (h : Part g l k (r ++ [p])) (hk : k < l.length) (hk5 : k ≤ 100) (he : n.err = 0) (hs : n.f.size ≤ 200) (hg : n.isG) (hst : p.st ≤ n.st) (hf : n.f = p.at n.st)
    (e1 : n.st = (l[k]).1) (e2 : n.x = (l[k]).2.1) (e3 : n.ti = (l[k]).2.2) : Part g l (k + 1) (r ++ [p] ++ [n]) := by
  have hl := h.1
  refine ⟨by rw [List.length_append, hl]; rfl, ?_, ?_, fun x hx => ?_, fun j hj hjk => ?_⟩
  · have := h.2.1
    cases r with
    | nil => simpa using this
    | cons a r => simpa using this
  · exact chainE_snoc h.2.2.1 (by simp at hl; omega) he hst hf
  · rw [List.mem_append] at hx
    rcases hx with hx | hx
    · exact h.2.2.2.1 x hx
    · simp only [List.mem_singleton] at hx; subst hx; exact ⟨hs, hg⟩
  · by_cases hjk' : j = k
    · subst hjk'
      refine ⟨n, ?_, e1, e2, e3⟩
      rw [List.getElem?_append_right (by omega), hl]; simp
    · obtain ⟨c, h1, h2⟩ := h.2.2.2.2 j hj (by omega)
      exact ⟨c, by rw [List.getElem?_append_left (by omega)]; exact h1, h2⟩
def Made (g : Gl) (l : List T3) (ch : List Gl) : Prop := Part g l l.length ch
def ChR (w w' : World) (g : Gl) (l : List T3) (e : Ending) : Prop :=
  (e = .returned (.tuple #[.slice none 0 0, .bool false]) ∨ ∃ (b : Nat) (ch : List Gl) (cap : Nat), e = .returned (.tuple #[.slice (some ⟨b, 0, none⟩) ch.length cap, .bool true]) ∧ w.heap.size ≤ b ∧ RdG w' (some ⟨b, 0, none⟩) ch ∧ ch.length ≤ cap ∧ cap ≤ maxLen ∧ Made g l ch) ∧ Gr w w'
/-- append of one new glide to a slice that the call has made -/
theorem push_gl {i : TypeInfo} (hi : Tryz.prog.info? 24 = some i) (hz0 : i.zero = some (.agg #[.string ⟨#[]⟩, .int .i64 0, .int .i64 0, .int .i64 0])) (hz1 : i.size = 4) (hz2 : i.bytes = 40)
    {ops : Array Oper} {rest : List Oper} {o : Oper} {a : Act} {Q : Exit → Act → World → Prop} {w0 w : World} (hgd : o.guard = none) (s x : Operand)
    (ho : o.op = .call { callee := .builtin .append, args := #[s, x], argTypes := #[46, 46] }) (v : Value) (xs : List Gl) (hs : a.eval s = v) (hown : OwnG w0.heap.size w v xs) (hg : Gr w0 w)
    (f : ByteArray) (y st ti : Int) (hx : a.eval x = .slice (some ⟨w.heap.size, 0, none⟩) 1 1) (hlen : xs.length ≤ 3000000)
    (h : ∀ (g cap : Nat) w', OwnG w0.heap.size w' (.slice (some ⟨g, 0, none⟩) (xs.length + 1) cap) (xs ++ [(f, y, st, ti)]) → Gr w0 w' → wpList Tryz.prog ops Q rest (a.put o.dst (.slice (some ⟨g, 0, none⟩) (xs.length + 1) cap)) w') :
    wpList Tryz.prog ops Q (o :: rest) a (w.alloc (oGl f y st ti)) := by
  have hgs := hg.size
  obtain ⟨k0, k1, k2, k3⟩ := Box4.new w f y st ti 24
  refine wpList_append_own _ hgd s x _ ho w0.heap.size 24 i (.agg #[.string ⟨#[]⟩, .int .i64 0, .int .i64 0, .int .i64 0]) 4 40 Tryz.underlying46 hi hz0 hz1 hz2 rfl (by decide) v xs.length (gv xs) hs (World.ownsRow.alloc hown _) ⟨w.heap.size, 0, none⟩ 1 1 [.string f, .int .i64 y, .int .i64 st, .int .i64 ti] hx rfl
    (fun j u hj => ?_) (fun u hu => ?_) (by unfold maxLen; omega) (by omega) (by simp; omega) (fun v' w' hown' hgrow _ => ?_)
  · rw [WideShapes.add_plain]
    match j, hj with
    | 0, hj => simp only [List.getElem?_cons_zero, Option.some.injEq] at hj; subst hj; exact k0
    | 1, hj => simp only [List.getElem?_cons_succ, List.getElem?_cons_zero, Option.some.injEq] at hj; subst hj; exact k1
    | 2, hj => simp only [List.getElem?_cons_succ, List.getElem?_cons_zero, Option.some.injEq] at hj; subst hj; exact k2
    | 3, hj => simp only [List.getElem?_cons_succ, List.getElem?_cons_zero, Option.some.injEq] at hj; subst hj; exact k3
    | j + 4, hj => simp at hj
  · simp only [List.mem_cons, List.not_mem_nil, or_false] at hu
    rcases hu with rfl | rfl | rfl | rfl <;> rfl
  · rcases id hown'.2 with ⟨-, h0⟩ | ⟨g, cap, cur, rfl, _⟩
    · omega
    · refine h g cap w' ?_ (Below.grown (hg.alloc _) hgrow (by simp; omega) (fun k hk => (World.ownsRow.lt hown k hk).1))
      show World.ownsRow _ _ _ _ _ _ _
      rw [gv_snoc, List.length_append]; exact hown'
theorem OwnG.at {B : Nat} {w : World} {g n cap : Nat} {l : List Gl} (h : OwnG B w (.slice (some ⟨g, 0, none⟩) n cap) l) {k : Nat} {p : Gl} (hp : l[k]? = some p) : GlAt w g (k * 4) p := by
  obtain ⟨hk, rfl⟩ := List.getElem?_eq_some_iff.1 hp
  obtain ⟨b, o, e, hat⟩ := h.rd k hk
  simp only [Option.some.injEq, Addr.mk.injEq, and_true] at e
  obtain ⟨rfl, rfl⟩ := e
  rwa [Nat.zero_add] at hat
theorem at_size {p : Gl} (h : p.err = 0) (hs : p.f.size ≤ 200) (t : Int) : (p.at t).size ≤ 1000 := by
  obtain ⟨q, e1, e2, e3, lq, x0, x1, st0, st1, ti0, ti1⟩ := Gl.err_zero h (by omega)
  have := RT_size ((sh_ofG (t := t) e3 x0 x1 st0 st1 ti0 ti1).mono (show _ ≤ 420 by omega))
  show (RT (ofG (rv p.f) p.x p.st p.ti t)).size ≤ 1000
  rw [e2]; omega
theorem T3At.gr' {w w' : World} {b o : Nat} {p : T3} (h : T3At w b o p) (hg : Gr w w') : T3At w' b o p := h.gr hg
section
variable {w0 : World} (htab : Tab w0) (hmx : Mx w0) (herr : ErrR w0)
include htab hmx herr
set_option maxHeartbeats 4000000 in
set_option maxRecDepth 100000 in
theorem top_tryChain {g : Gl} (hg : g.isG) (he : g.err = 0) (hs : g.f.size ≤ 200) {a : Option Addr} {l : List T3} {cap : Nat} (hl : l.length ≤ 5) (hI : ∀ q ∈ l, isT q) (w : World) (hw : Gr w0 w) (hc : RdT w a l) :
    Calls Tryz.prog 44 #[vG4 g, .slice a l.length cap] w (fun e w' => ChR w w' g l e) := by
  have HC := Lib.hid hc
  have HI := Lib.hid hI
  have HP := Lib.hid (Part.start l he hs hg)
  clear hc hI
  obtain ⟨i0, hi, hz0, hz1, hz2⟩ := info_parts Tryz.infoGlide
  have GO := Lib.hid (fun (p : Gl) (hp : p.f.size ≤ 200) (q : T3) (hq : isT q) => RetG.of4 (w0 := w0) fun w1 h => ret_GGo (htab_gr htab h) (hmx.gr h) (herr.gr h) (s := p.f) (by omega) (x := p.x) (st := p.st) (ti := p.ti) (t := q.1) (y := q.2.1) (d := q.2.2) hq.1)
  have CK := Lib.hid (fun (n : Gl) (hn : n.f.size ≤ 100000) (hi : n.isG) => RetG.of4 (w0 := w0) fun w1 _ => ret3_Check (w0 := w1) (s := n.f) (by omega) hi.1 hi.2.1 hi.2.2)
  have HW := Lib.hid hw
  clear htab hmx herr hw he hs
  obtain ⟨n, hn⟩ : ∃ n, n = l.length := ⟨_, rfl⟩
  have HN := Lib.hid hn
  rw [← hn] at hl ⊢
  clear hn
  obtain ⟨f, x, st, ti⟩ := g
  have HO : Hid (OwnG w.heap.size ((w.alloc (oGl f x st ti)).alloc (oGl f x st ti)) (.slice (some ⟨w.heap.size + 1, 0, none⟩) (0 + 1) 1) [(f, x, st, ti)]) := Lib.hid (by have := ownG_one (w.alloc (oGl f x st ti)) (f, x, st, ti) w.heap.size (by simp); rwa [World.size_alloc] at this)
  have HGW := Lib.hid (((Gr.refl w).alloc (oGl f x st ti)).alloc (oGl f x st ti))
  obtain ⟨k0, k1, k2, k3⟩ := Box4.new w f x st ti 24
  go_enter Tryz.func44, Tryz.ntmps44
  go_wp2
  clear k0 k1 k2 k3
  go_loopw [6, 8, 9, 10, 11, 16] (fun v _ _ _ _ i wr => ∃ (k : Nat) (ch : List Gl) (b cp : Nat), i = .int .i64 k ∧ k ≤ n ∧ v = .slice (some ⟨b, 0, none⟩) (k + 1) cp ∧ Hid (OwnG w.heap.size wr (.slice (some ⟨b, 0, none⟩) (k + 1) cp) ch) ∧ Hid (Gr w wr) ∧ Hid (Part (f, x, st, ti) l k ch)) (fun _ _ _ _ _ i _ => n - (intOf i).toNat)
  case atStart => exact ⟨0, [(f, x, st, ti)], _, 1, rfl, Nat.zero_le _, rfl, HO.out, HGW.out, HP.out⟩
  case round =>
    obtain ⟨k, ch, b, cp, rfl, hk, rfl, HO, HG, HPk⟩ := hrel
    clear HGW HP
    by_cases hlt : k < n
    · have hkl : k < l.length := by rw [← HN.out]; exact hlt
      obtain ⟨r, p, rfl, hrl, hpe, hps, hpg⟩ := HPk.out.last
      obtain ⟨bx, ox, rfl, hat⟩ := HC.out k hkl
      have hq := HI.out _ (List.getElem_mem hkl)
      have hlp := List.getElem?_eq_getElem hkl
      generalize hgq : l[k] = q at *
      have HQ := Lib.hid hgq
      have G1 := GO.out p hps q hq
      obtain ⟨t, y, d⟩ := q
      have hpc := HO.out.at (k := k) (p := p) (by rw [List.getElem?_append_right (by omega)]; simp [hrl])
      have HA : Hid (p.st ≤ t → p.isG) := Lib.hid fun _ => hpg
      have HT : Hid (okL (t, 10000000) = true → okL (y, 65535) = true → okL (d, 10000000) = true → RetG w0 24 #[vG4 p, .int .i64 t, .int .i64 y, .int .i64 d] (.tuple #[vGl (p.at t) y t d, .int .i64 0])) := Lib.hid fun h1 h2 h3 => by
        refine G1.cast ?_
        show vGI (goE p.f p.x p.st p.ti t y d) = _
        unfold goE
        rw [if_pos (show glE p.f p.x p.st p.ti = 0 from hpe), if_pos (by unfold tgE; rw [h1, h2, h3]; rfl)]
        rfl
      have hms := at_size hpe hps t
      have CK1 : RetG w0 19 #[vGl (p.at t) y t d] (.int .i64 (glE (p.at t) y t d)) := CK.out (p.at t, y, t, d) (by show (p.at t).size ≤ _; omega) ⟨hq.2.1, hq.1, hq.2.2⟩
      have HPu : Hid (p.st ≤ t → (p.at t).size ≤ 200 → glE (p.at t) y t d = 0 → Part (f, x, st, ti) l (k + 1) (r ++ [p] ++ [(p.at t, y, t, d)])) := Lib.hid fun h1 h2 h3 =>
        HPk.out.push hkl (by omega) h3 h2 ⟨hq.2.1, hq.1, hq.2.2⟩ h1 rfl (by rw [HQ.out]) (by rw [HQ.out]) (by rw [HQ.out])
      have T1 := Lib.hid (fun w => r3_Time t w hq.1)
      have T2 := Lib.hid (fun w => r3_Whole y w hq.2.1)
      have T3 := Lib.hid (fun w => r3_Time d w hq.2.2)
      have hrl' : (r ++ [p]).length = k + 1 := by simp [hrl]
      generalize hch : r ++ [p] = ch at *
      obtain ⟨pf, px, pst, pti⟩ := p
      simp only [Gl.f, Gl.x, Gl.st, Gl.ti] at HPu hpc HT HA
      generalize hm : Gl.at (pf, px, pst, pti) t = m at *
      obtain ⟨c0, c1, c2, c3⟩ := hpc
      obtain ⟨x0, x1, x2⟩ := hat.gr HG.out
      simp only [Gl.f, Gl.x, Gl.st, Gl.ti] at c0 c1 c2 c3
      simp only at x0 x1 x2
      have hbl : b < wr.heap.size := cell_lt c0
      have HCK := Lib.hid CK1
      have hmm : m.size ≤ maxLen := by unfold maxLen; omega
      obtain ⟨t0, t1⟩ := id hq.1
      obtain ⟨q0, q1⟩ := id hpg.2.1
      simp only [Gl.st] at t0 t1 q0 q1
      have hw1 : IntKind.i64.wrap ((k : Int) + 1 - 1) = (k : Int) := by rw [IntWalk.i64_in _ (by omega)]; omega
      clear CK1 G1 hq hgq hlp hpe hps hpg hat hm hch hrl HPk HC HI GO CK HQ HN
      generalize okL (t, 10000000) = b1 at *
      generalize okL (y, 65535) = b2 at *
      generalize okL (d, 10000000) = b3 at *
      go_wp2_with fail
      refine (T1.out _).mono ?_
      rintro e w1 ⟨rfl, rfl⟩
      cases b1
      · go_wp2
        go_ret2
        exact ⟨.inl rfl, (HG.out.alloc _).alloc _⟩
      · go_wp2_with fail
        refine (T2.out _).mono ?_
        rintro e w1 ⟨rfl, rfl⟩
        cases b2
        · go_wp2
          go_ret2
          exact ⟨.inl rfl, (HG.out.alloc _).alloc _⟩
        · go_wp2_with fail
          refine (T3.out _).mono ?_
          rintro e w1 ⟨rfl, rfl⟩
          cases b3
          · go_wp2
            go_ret2
            exact ⟨.inl rfl, (HG.out.alloc _).alloc _⟩
          · by_cases hlt2 : t < pst
            · go_wp2
              go_ret2
              exact ⟨.inl rfl, (HG.out.alloc _).alloc _⟩
            · have GG := Lib.hid (HT.out (by simp) (by simp) (by simp))
              clear T1 T2 T3 HT
              go_wp2_with fail
              refine (GG.out _ (Gr.trans HW.out ((HG.out.alloc _).alloc _))).mono ?_
              rintro e w1 ⟨rfl, hg1⟩
              have HG1 := Lib.hid (Gr.trans ((HG.out.alloc _).alloc _) hg1)
              have HO1 := Lib.hid (HO.out.gr (Gr.trans (((Gr.refl wr).alloc _).alloc _) hg1))
              have HB := Lib.hid (Box4.new w1 m y t d 24)
              clear hg1 HG HO GG c0 c1 c2 c3 x0 x1 x2 hbl
              generalize glE m y t d = c at *
              go_wp2_with fail
              refine (HCK.out _ (Gr.trans HW.out (HG1.out.alloc _))).mono ?_
              rintro e w2 ⟨rfl, hg2⟩
              have HG2 := Lib.hid (Gr.trans (HG1.out.alloc _) hg2)
              have HO2 := Lib.hid (HO1.out.gr (Gr.trans ((Gr.refl w1).alloc _) hg2))
              obtain ⟨k0, k1, k2, k3⟩ := HB.out.gr hg2
              clear hg2 HG1 HO1 HB HCK
              by_cases hc0 : c = 0
              · subst hc0
                by_cases h200 : 200 < m.size
                · go_wp2
                  go_ret2
                  exact ⟨.inl rfl, HG2.out⟩
                · have HPn := Lib.hid (HPu.out (by omega) (by omega) rfl)
                  go_wp2_with (at_builtin; refine push_gl hi hz0 hz1 hz2 rfl _ _ rfl _ ch rfl HO2.out HG2.out m y t d rfl (by omega) ?_; rintro g2 cap2 w3 hown3 hg3)
                  have HO3 := Lib.hid hown3
                  have HG3 := Lib.hid hg3
                  clear hown3 hg3
                  go_roundw
                  case rel => exact ⟨k + 1, ch ++ [(m, y, t, d)], g2, cap2, by go_num, by omega, rfl, by first | exact HO3.out | (rw [hrl'] at HO3; exact HO3.out), HG3.out, HPn.out⟩
                  case measure => simp [intOf]; omega
              · have hne : (c != 0) = true := by simpa using hc0
                go_wp2
                go_ret2
                exact ⟨.inl rfl, HG2.out⟩
    · have hkn : k = n := by omega
      subst hkn
      have hch := HPk.out.1
      go_wp2
      go_ret2
      refine ⟨.inr ⟨b, ch, cp, by rw [hch]; rfl, ?_, HO.out.rd, ?_, ?_, by unfold Made; rw [← HN.out]; exact HPk.out⟩, HG.out⟩
      all_goals
        rcases HO.out.2 with ⟨h, -⟩ | ⟨g', cap', cur, h, h1, h2, h3, h4, -⟩
        · cases h
        · injection h with e1 e2 e3
          injection e1 with e1
          injection e1 with e1 _ _
          subst e1
          subst e3
          first | exact h1 | exact h4 | omega
end
end Go.Proofs.YtffifpinnhaloaaGreatDoor
