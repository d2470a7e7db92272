/- The top law TopGlidesArrive. -/
import Derived.Test.YtffifpinnhaloaaGreatDoorTop02c
import Derived.Test.YtffifpinnhaloaaGreatDoorGlG
import Derived.Lib.SliceRun
set_option linter.unusedVariables false
set_option linter.unusedSimpArgs false
namespace Go.Proofs.YtffifpinnhaloaaGreatDoor
open Go.RowKit Go.Shelf
open Z

def tv (l : List T3) : List Value := l.flatMap fun q => [.int .i64 q.1, .int .i64 q.2.1, .int .i64 q.2.2]
theorem tv_length (l : List T3) : (tv l).length = l.length * 3 := by
  induction l with
  | nil => rfl
  | cons g l ih => simp [tv] at ih ⊢; omega
theorem tv_get : ∀ (l : List T3) (k : Nat) (h : k < l.length), (tv l)[k * 3]? = some (.int .i64 l[k].1) ∧ (tv l)[k * 3 + 1]? = some (.int .i64 l[k].2.1) ∧ (tv l)[k * 3 + 2]? = some (.int .i64 l[k].2.2)
  | [], _, h => absurd h (by simp)
  | g :: l, 0, _ => ⟨rfl, rfl, rfl⟩
  | g :: l, k + 1, h => by
    have ih := tv_get l k (by simpa using h)
    have e : ∀ j, (tv (g :: l))[(k + 1) * 3 + j]? = (tv l)[k * 3 + j]? := fun j => by
      show ([Value.int .i64 g.1, .int .i64 g.2.1, .int .i64 g.2.2] ++ tv l)[(k + 1) * 3 + j]? = _
      rw [List.getElem?_append_right (by simp; omega)]
      congr 1; simp; omega
    refine ⟨by have := e 0; simpa using this.trans ih.1, by rw [e 1]; exact ih.2.1, by rw [e 2]; exact ih.2.2⟩
/-- turns in a row that may be written -/
def HT (w : World) (g : Nat) (d : List T3) : Prop := ∀ j (h : j < d.length), T3At w g (j * 3) d[j] ∧ w.frozen? ⟨g, j * 3 + 1, none⟩ = false
theorem HT.rd {w : World} {g : Nat} {d : List T3} (h : HT w g d) : RdT w (some ⟨g, 0, none⟩) d := fun k hk => ⟨g, 0, rfl, by rw [Nat.zero_add]; exact (h k hk).1⟩
theorem HT.set {w : World} {g : Nat} {d : List T3} (h : HT w g d) {i : Nat} {q : T3} (hq : d[i]? = some q) (y : Int) : HT (w.setCell ⟨g, i * 3 + 1, none⟩ (.int .i64 y)) g (d.set i (q.1, y, q.2.2)) := fun j hj => by
  obtain ⟨hi, rfl⟩ := List.getElem?_eq_some_iff.1 hq
  rw [List.length_set] at hj
  obtain ⟨⟨h0, h1, h2⟩, f1⟩ := h j hj
  have other : ∀ (a : Nat), a ≠ i * 3 + 1 → (w.setCell ⟨g, i * 3 + 1, none⟩ (.int .i64 y)).cell? ⟨g, a, none⟩ = w.cell? ⟨g, a, none⟩ := fun a hn => World.cell?_setCell_other _ _ _ _ (by simp only [ne_eq, Addr.mk.injEq]; omega)
  refine ⟨?_, by rw [World.frozen?_setCell]; exact f1⟩
  by_cases e : i = j
  · subst e
    rw [List.getElem_set_self]
    exact ⟨(other _ (by omega)).trans h0, World.cell?_setCell_same _ _ _ h1, (other _ (by omega)).trans h2⟩
  · rw [List.getElem_set_ne e]
    exact ⟨(other _ (by omega)).trans h0, (other _ (by omega)).trans h1, (other _ (by omega)).trans h2⟩
theorem HT.of {B : Nat} {w : World} {v : Value} {l : List T3} (h : w.ownsRow B 77 3 v l.length (tv l)) (hne : l ≠ []) : ∃ g cap, v = .slice (some ⟨g, 0, none⟩) l.length cap ∧ B ≤ g ∧ HT w g l := by
  rcases id h.2 with ⟨-, h0⟩ | ⟨g, cap, cur, rfl, hb, hg, _⟩
  · exact absurd (List.eq_nil_of_length_eq_zero h0) hne
  · refine ⟨g, cap, rfl, hb, fun j hj => ?_⟩
    obtain ⟨h0, h1, h2⟩ := tv_get l j hj
    have c : ∀ j u, (tv l)[j]? = some u → w.cell? ⟨g, 0 + j, none⟩ = some u := fun j u hj => by
      have := World.ownsRow.cells h (g := g) rfl j u hj
      rwa [WideShapes.add_plain] at this
    exact ⟨⟨by simpa using c _ _ h0, by simpa [Nat.add_assoc] using c _ _ h1, by simpa [Nat.add_assoc] using c _ _ h2⟩, by simp [World.frozen?, hg]⟩
theorem Tryz.infoTurn : (Tryz.prog.info? 77).map (fun i => (i.zero, i.size, i.bytes)) = some (some (.agg #[.int .i64 0, .int .i64 0, .int .i64 0]), 3, 24) := by kernel_rfl
set_option maxHeartbeats 2000000 in
set_option maxRecDepth 100000 in
theorem top_Clone (aa : Option Addr) (ca : Nat) (l : List T3) (w : World) (hr : RdT w aa l) (hl : l.length ≤ 5) :
    Calls Tryz.prog 54 #[.slice aa l.length ca] w fun e w' => (∃ a' c', e = .returned (.slice a' l.length c') ∧ (l ≠ [] → ∃ g, a' = some ⟨g, 0, none⟩ ∧ w.heap.size ≤ g ∧ HT w' g l)) ∧ Gr w w' := by
  obtain ⟨i0, hi, hz0, hz1, hz2⟩ := info_parts Tryz.infoTurn
  have q22 : ∀ (w : World) (a : Option Addr) (n c n' c' : Nat), (binOp .eql 76 (.slice a n c) (.slice none n' c')).run Tryz.prog w = .ok (.bool a.isNone) w := fun w a n c n' c' => Lib.run_eql_slice_nil w _ _ a n c n' c' Tryz.underlying76
  have HR := Lib.hid hr; clear hr
  cases aa with
  | none =>
    have hx : l = [] := by
      cases l with
      | nil => rfl
      | cons q l => obtain ⟨b, o, e, -⟩ := HR.out 0 (by simp); exact absurd e (by simp)
    subst hx
    go_enter Tryz.func54, Tryz.ntmps54
    go_wp2
    go_ret
    exact ⟨⟨_, _, rfl, fun h => absurd rfl h⟩, Gr.refl _⟩
  | some ad =>
    go_enter Tryz.func54, Tryz.ntmps54
    go_wp2_with (at_builtin; refine wpList_append_own _ rfl _ _ 76 rfl w.heap.size 77 i0 (.agg #[.int .i64 0, .int .i64 0, .int .i64 0]) 3 24 Tryz.underlying76 hi hz0 hz1 hz2 rfl (by decide) _ _ _ rfl (World.ownsRow_made w #[] 0 (Nat.le_refl _) (Nat.zero_le _) rfl) ad l.length ca (tv l) rfl ?qc1 ?qc2 ?qc3 ?qc4 ?qc5 ?qc6 ?_)
    case qc1 => rw [tv_length]
    case qc2 =>
      intro j u hj
      have hjn : j < l.length * 3 := by
        have := (List.getElem?_eq_some_iff.1 hj).1
        rwa [tv_length] at this
      obtain ⟨b, o, e, c0, c1, c2⟩ := HR.out (j / 3) (by omega)
      simp only [Option.some.injEq] at e
      subst e
      rw [Addr.add_lit]
      refine Lib.cell?_alloc_some _ ?_
      obtain ⟨g0, g1, g2⟩ := tv_get l (j / 3) (by omega)
      rcases (show j = j / 3 * 3 ∨ j = j / 3 * 3 + 1 ∨ j = j / 3 * 3 + 2 by omega) with h | h | h
      · rw [h, g0] at hj; cases hj; rw [show o + j = o + j / 3 * 3 by omega]; simpa using c0
      · rw [h, g1] at hj; cases hj; rw [show o + j = o + j / 3 * 3 + 1 by omega]; exact c1
      · rw [h, g2] at hj; cases hj; rw [show o + j = o + j / 3 * 3 + 2 by omega]; exact c2
    case qc3 =>
      intro u hu
      obtain ⟨x, _, hx⟩ := List.mem_flatMap.1 hu
      simp only [List.mem_cons, List.not_mem_nil, or_false] at hx
      rcases hx with rfl | rfl | rfl <;> rfl
    case qc4 => unfold maxLen; omega
    case qc5 => omega
    case qc6 => simp
    intro v' w1 hown hgrow hnil
    have HO : Hid (w1.ownsRow w.heap.size 77 3 v' l.length (tv l)) := by
      show World.ownsRow _ _ _ _ _ _ _
      simpa using hown
    have HG : Hid (Gr w w1) := ((Below.refl _ w).alloc (Nat.le_refl _) _).grown hgrow (by simp) (by intro k hk; simp [Value.ownBlock] at hk; omega)
    clear hown hgrow hnil
    go_wp2
    go_ret
    refine ⟨?_, HG.out⟩
    by_cases hne : l = []
    · subst hne
      rcases id HO.out.2 with ⟨rfl, -⟩ | ⟨g, cap, cur, rfl, _⟩
      · exact ⟨none, 0, rfl, fun h => absurd rfl h⟩
      · exact ⟨_, cap, rfl, fun h => absurd rfl h⟩
    · obtain ⟨g, cap, rfl, hb, h⟩ := HT.of HO.out hne
      exact ⟨_, cap, rfl, fun _ => ⟨g, rfl, hb, h⟩⟩
/-- the last glide of a made chain -/
theorem Made.last {g : Gl} {l : List T3} {ch : List Gl} (h : Made g l ch) {n : Nat} (hn : l.length = n + 1) {q : T3} (hq : l[n]? = some q) :
    ∃ c : Gl, ch[n + 1]? = some c ∧ c.x = q.2.1 ∧ valL ch (c.st + c.ti) = Tx c.x ∧ 0 ≤ c.st ∧ c.st ≤ 10000000 ∧ 0 ≤ c.ti ∧ c.ti ≤ 10000000 := by
  obtain ⟨h1, h2, h3, h4, h5⟩ := h
  obtain ⟨hi, rfl⟩ := List.getElem?_eq_some_iff.1 hq
  obtain ⟨c, e1, -, e3, -⟩ := h5 n (by omega) (by omega)
  obtain ⟨hcl, ec⟩ := List.getElem?_eq_some_iff.1 e1
  have F := facts_of h3
  obtain ⟨-, -, -, s0, s1, i0, i1⟩ := Gl.lvl (F.1 c (by rw [← ec]; exact List.getElem_mem hcl))
  refine ⟨c, e1, e3, ?_, s0, s1, i0, i1⟩
  have up : ∀ d j (hj : j < ch.length), j + d = n + 1 → (ch[j]).st ≤ c.st := by
    intro d
    induction d with
    | zero => intro j hj hjn; have : j = n + 1 := by omega
              subst this; rw [ec]; exact Int.le_refl _
    | succ d ih => intro j hj hjn; exact Int.le_trans (F.2 j (by omega)).1 (ih (j + 1) (by omega) (by omega))
  have hat : IsAt ch (c.st + c.ti) (n + 1) := ⟨hcl, fun j hj hjk => by have := up (n - j) (j + 1) hj (by omega); omega, fun hk => by omega⟩
  rw [valL_at hat]
  show ((ch[n + 1]'hcl).at _) = _
  rw [ec]
  show RT (ofG (rv c.f) c.x c.st c.ti (c.st + c.ti)) = _
  unfold ofG
  rw [if_pos (Int.le_refl _), RT_int]
section
variable {w0 : World} (htab : Tab w0) (hmx : Mx w0) (herr : ErrR w0)
include htab hmx herr
/-- what the law calls on numbers -/
theorem arrive_calls {u : Int} (u0 : 0 ≤ u) (u1 : u ≤ 65535) : ∃ s : ByteArray,
      RetG w0 52 #[.int .i64 u] (.tuple #[.string s, .int .i64 0]) ∧ RetG w0 53 #[.string s] (.tuple #[.int .i64 u, .int .i64 0]) ∧
      RetG w0 50 #[.string (Tx u)] (.tuple #[.int .i64 u, .int .i64 0]) ∧ RetG w0 55 #[.int .i64 u] (.tuple #[.int .i64 (u / 256), .int .i64 (u % 256), .int .i64 0]) ∧
      RetG w0 56 #[.int .i64 (u / 256), .int .i64 (u % 256)] (.tuple #[.int .i64 u, .int .i64 0]) ∧ RetG w0 57 #[.int .i64 u, .int .i64 16] (.tuple #[.int .i64 u, .int .i64 0]) ∧
      RetG w0 39 #[.int .i64 u] (.string (Tx u)) := by
  have hb : byteB (u / 256) = true := by unfold byteB; rw [decide_eq_true (by omega), decide_eq_true (by omega)]; rfl
  have hb2 : byteB (u % 256) = true := by unfold byteB; rw [decide_eq_true (by omega), decide_eq_true (by omega)]; rfl
  obtain ⟨n, rfl⟩ : ∃ n : Nat, u = (n : Int) := ⟨u.toNat, by omega⟩
  have hn : n ≤ 65535 := by omega
  have hsz := textR_size hn
  refine ⟨str (textR n), ?_, ?_, ?_, ?_, ?_, ?_, ?_⟩
  · exact .of4 fun w1 h => .mk fun w hg => by
      have H := lv_Text (n : Int) w (by unfold isJ; omega) (htab_gr htab (Gr.trans h hg))
      unfold textI at H
      rw [lvl_yes u0 u1, if_pos rfl, Int.toNat_natCast] at H; exact H
  · exact .of4 fun w1 h => .mk fun w _ => by
      have H := lv_Percent (str (textR n)) w (by rw [str_size]; unfold maxLen; omega)
      rw [data_str, pct_text hn] at H; exact H
  · exact .of4 fun w1 h => (ret_LSixteen (htab_gr htab h) (hmx.gr h) (herr.gr h) (tx_short u0 u1)).ii (sixteen_int u0 u1)
  · exact .of4 fun w1 h => .same fun w => by
      have H := lv_Split n w (by unfold isJ; omega)
      unfold splitI at H
      rw [lvl_yes u0 u1] at H; exact H
  · exact .of4 fun w1 h => .same fun w => by
      have H := lv_Join (n / 256) (n % 256) w (by unfold isJ; omega) (by unfold isJ; omega)
      unfold joinI at H
      rw [hb, hb2, Bool.and_self, if_pos rfl, show 256 * ((n : Int) / 256) + (n : Int) % 256 = n by omega] at H; exact H
  · exact .of4 fun w1 h => .same fun w => by
      have H := lv_Of n 16 w (by unfold isJ; omega) (by unfold isJ; omega)
      rw [ofI_16, lvl_yes u0 u1] at H; exact H
  · exact .of4 fun w1 h => ret_Whole2 (by omega) (by omega)
set_option maxHeartbeats 4000000 in
set_option maxRecDepth 100000 in
theorem top_TopGlidesArrive {g : Gl} (hs : g.f.size ≤ maxLen) (hg : g.isG) {a : Option Addr} {l : List T3} {cap : Nat} (hc : RdT w0 a l) (hI : ∀ q ∈ l, isT q) (hlc : l.length ≤ cap) (hcm : cap ≤ maxLen) {u : Int} (hu : 0 ≤ u ∧ u ≤ 65535) :
    Ret w0 12 #[vG4 g, .slice a l.length cap, .int .u16 u] (.bool true) := by
  have T := Lib.hid (RetG.of4 (w0 := w0) fun w1 h => top_tryGlides (htab_gr htab h) (hmx.gr h) (herr.gr h))
  obtain ⟨u0, u1⟩ := hu
  obtain ⟨f, x, st, ti⟩ := g
  have hgG := Lib.hid hg
  obtain ⟨hx, hst, hti⟩ := hg
  simp only [Gl.f, Gl.x, Gl.st, Gl.ti] at hs hx hst hti
  have F := Lib.hid (fun w => few_new1 (w := w) (g := (f, x, st, ti)) 24 hs)
  simp only [Gl.f, Gl.x, Gl.st, Gl.ti] at F
  unfold maxLen at hcm
  have hlm : l.length ≤ maxLen := by unfold maxLen; omega
  unfold maxLen at hlm
  by_cases h12 : f.size ≤ 120
  · rw [decide_eq_true h12] at F
    have K := RetG.of4 (w0 := w0) fun w1 _ => ret3_Check (w0 := w1) (s := f) (by omega) hx hst hti
    by_cases he : glE f x st ti = 0
    · rw [he] at K
      have K := Lib.hid K
      have HE := Lib.hid (show Gl.err (f, x, st, ti) = 0 from he)
      by_cases h5 : 5 < l.length
      · clear htab hmx herr he hc hI h12
        generalize l.length = n at *
        intro w hg
        have HB := Lib.hid (Box4.new w f x st ti 24)
        have HG := Lib.hid (hg.alloc (oGl f x st ti))
        clear hg
        obtain ⟨k0, k1, k2, k3⟩ := id HB.out
        go_enter Tryz.func12, Tryz.ntmps12
        have F2 := F.out (w.alloc (oGl f x st ti))
        rw [World.size_alloc] at F2
        have F2 := Lib.hid F2
        go_wp2_with fail
        refine F2.out.mono ?_
        clear F2
        rintro e w1 ⟨rfl, hg⟩
        have hB := HB.out.gr hg
        replace HG := Lib.hid (Gr.trans HG.out hg)
        clear hg HB k0 k1 k2 k3
        have HB := Lib.hid hB
        obtain ⟨k0, k1, k2, k3⟩ := hB
        go_wp2_with fail
        refine (K.out _ HG.out).mono ?_
        rintro e w1 ⟨rfl, hg⟩
        have hB := HB.out.gr hg
        replace HG := Lib.hid (Gr.trans HG.out hg)
        clear hg HB k0 k1 k2 k3
        have HB := Lib.hid hB
        obtain ⟨k0, k1, k2, k3⟩ := hB
        clear HB k0 k1 k2 k3
        go_wp2_with fail
        refine (T.out _ HG.out).mono ?_
        rintro e w1 ⟨rfl, hg⟩
        replace HG := Lib.hid (Gr.trans HG.out hg); clear hg
        go_wp2
        go_ret
        exact ⟨rfl, HG.out⟩
      · have hll : (l.length : Int) ≤ 5 := by omega
        have HC := Lib.hid hc
        have HI := Lib.hid hI
        have HTAB := Lib.hid htab
        have HMX := Lib.hid hmx
        have HERR := Lib.hid herr
        have H12 := Lib.hid h12
        obtain ⟨s, A1, A2, A3, A4, A5, A6, A7⟩ := arrive_calls htab hmx herr u0 u1
        have A1 := Lib.hid A1
        have A2 := Lib.hid A2
        have A3 := Lib.hid A3
        have A4 := Lib.hid A4
        have A5 := Lib.hid A5
        have A6 := Lib.hid A6
        have A7 := Lib.hid A7
        have CL := Lib.hid (fun (w : World) (hw : Gr w0 w) => top_Clone a cap l w (hc.gr hw) (by omega))
        clear hc hI htab hmx herr he h12
        intro w hg
        have HB := Lib.hid (Box4.new w f x st ti 24)
        have HG := Lib.hid (hg.alloc (oGl f x st ti))
        clear hg
        obtain ⟨k0, k1, k2, k3⟩ := id HB.out
        go_enter Tryz.func12, Tryz.ntmps12
        have F2 := F.out (w.alloc (oGl f x st ti))
        rw [World.size_alloc] at F2
        have F2 := Lib.hid F2
        go_wp2_with fail
        refine F2.out.mono ?_
        clear F2
        rintro e w1 ⟨rfl, hg⟩
        have hB := HB.out.gr hg
        replace HG := Lib.hid (Gr.trans HG.out hg)
        clear hg HB k0 k1 k2 k3
        have HB := Lib.hid hB
        obtain ⟨k0, k1, k2, k3⟩ := hB
        go_wp2_with fail
        refine (K.out _ HG.out).mono ?_
        rintro e w1 ⟨rfl, hg⟩
        have hB := HB.out.gr hg
        replace HG := Lib.hid (Gr.trans HG.out hg)
        clear hg HB k0 k1 k2 k3
        have HB := Lib.hid hB
        obtain ⟨k0, k1, k2, k3⟩ := hB
        go_wp2_with fail
        refine (A1.out _ HG.out).mono ?_
        rintro e w1 ⟨rfl, hg⟩
        have hB := HB.out.gr hg
        replace HG := Lib.hid (Gr.trans HG.out hg)
        clear hg HB k0 k1 k2 k3
        have HB := Lib.hid hB
        obtain ⟨k0, k1, k2, k3⟩ := hB
        go_wp2_with fail
        refine (A2.out _ HG.out).mono ?_
        rintro e w1 ⟨rfl, hg⟩
        have hB := HB.out.gr hg
        replace HG := Lib.hid (Gr.trans HG.out hg)
        clear hg HB k0 k1 k2 k3
        have HB := Lib.hid hB
        obtain ⟨k0, k1, k2, k3⟩ := hB
        go_wp2_with fail
        refine (CL.out _ HG.out).mono ?_
        rintro e w1 ⟨⟨a', c', rfl, hown⟩, hg⟩
        have hsz1 := HG.out.size
        have hlt0 := cell_lt k0
        have hgs := hg.size
        have hB := HB.out.gr hg
        replace HG := Lib.hid (Gr.trans HG.out hg)
        clear hg HB k0 k1 k2 k3 A1 A2 CL
        have HB := Lib.hid hB
        obtain ⟨k0, k1, k2, k3⟩ := hB
        by_cases hne : l = []
        · subst hne
          clear hown
          have TC := Lib.hid (fun (w : World) (hw : Gr w0 w) => top_tryChain HTAB.out HMX.out HERR.out hgG.out HE.out (by have := H12.out; show f.size ≤ 200; omega) (cap := c') (l := []) (by simp) (by simp) w hw (RdT.nil w a'))
          simp only [List.length_nil] at *
          go_wp2_with fail
          refine (TC.out _ HG.out).mono ?_
          rintro e w2 ⟨hor, hg1⟩
          have HG1 := Lib.hid (Gr.trans HG.out hg1)
          clear hg1 HG HB k0 k1 k2 k3 TC
          rcases hor with rfl | ⟨bb, ch, cp, rfl, -, hrd, hcc, hcpm, hmade⟩
          · go_wp2_with fail
            refine (T.out _ HG1.out).mono ?_
            rintro e w1 ⟨rfl, hg⟩
            replace HG := Lib.hid (Gr.trans HG1.out hg); clear hg
            go_wp2
            go_ret
            exact ⟨rfl, HG.out⟩
          · clear hrd hmade
            generalize ch.length = m at *
            go_wp2_with fail
            refine (T.out _ HG1.out).mono ?_
            rintro e w1 ⟨rfl, hg⟩
            replace HG := Lib.hid (Gr.trans HG1.out hg); clear hg
            go_wp2
            go_ret
            exact ⟨rfl, HG.out⟩
        · obtain ⟨g, rfl, hgb, hht⟩ := hown hne
          clear hown
          obtain ⟨m, hm⟩ : ∃ m, l.length = m + 1 := ⟨l.length - 1, by have := List.length_pos_iff.2 hne; omega⟩
          have HLM := Lib.hid hm
          have hgm := List.getElem?_eq_getElem (l := l) (i := m) (by omega)
          have hat := hht m (by omega)
          have HTS := Lib.hid (hht.set hgm u)
          generalize hqe : l[m] = q at *
          have hqT : isT q := by rw [← hqe]; exact HI.out _ (List.getElem_mem _)
          have HGM := Lib.hid hgm
          obtain ⟨qt, qy, qd⟩ := q
          obtain ⟨⟨x0, x1, x2⟩, f1⟩ := hat
          simp only at x0 x1 x2 HTS
          have hgne : w.heap.size < g := by omega
          have hw1 : IntKind.i64.wrap (((m + 1 : Nat) : Int) - 1) = (m : Int) := by rw [IntWalk.i64_in _ (by omega)]; omega
          have hpos : (0 : Int) < ((m + 1 : Nat) : Int) := by omega
          have HG2 : Hid (Gr w0 (w1.setCell ⟨g, m * 3 + 1, none⟩ (.int .i64 u))) := Lib.hid (Below.setCell HG.out (by show w0.heap.size ≤ g; omega) _)
          have HB2 : Hid (Box4 (w1.setCell ⟨g, m * 3 + 1, none⟩ (.int .i64 u)) w.heap.size f x st ti) := by
            have other : ∀ o, (w1.setCell ⟨g, m * 3 + 1, none⟩ (.int .i64 u)).cell? ⟨w.heap.size, o, none⟩ = w1.cell? ⟨w.heap.size, o, none⟩ := fun o => World.cell?_setCell_other _ _ _ _ (by simp only [ne_eq, Addr.mk.injEq]; omega)
            exact ⟨(other _).trans k0, (other _).trans k1, (other _).trans k2, (other _).trans k3⟩
          have TC := fun (w : World) (hw : Gr w0 w) (hc : RdT w (some ⟨g, 0, none⟩) (l.set m (qt, u, qd))) => top_tryChain HTAB.out HMX.out HERR.out hgG.out HE.out (by have := H12.out; show f.size ≤ 200; omega) (cap := c') (l := l.set m (qt, u, qd)) (by rw [List.length_set]; have := HLM.out; omega) (fun q hq => by
            rcases List.mem_or_eq_of_mem_set hq with h | h
            · exact HI.out q h
            · subst h; exact ⟨hqT.1, (show isJ u from ⟨by omega, by omega⟩), hqT.2.2⟩) w hw hc
          rw [List.length_set, hm] at TC
          have TC := Lib.hid TC
          rw [hm] at h5 hlc hlm hll ⊢
          clear hgm hqe hht hm hqT hne
          go_wp2_with fail
          refine (TC.out _ HG2.out HTS.out.rd).mono ?_
          rintro e w2 ⟨hor, hg1⟩
          have HG3 := Lib.hid (Gr.trans HG2.out hg1)
          clear hg1 HG HB HG2 HB2 k0 k1 k2 k3 x0 x1 x2 f1 TC
          rcases hor with rfl | ⟨bb, ch, cp, rfl, -, hrd, hcc, hcpm, hmade⟩
          · go_wp2_with fail
            refine (T.out _ HG3.out).mono ?_
            rintro e w1 ⟨rfl, hg⟩
            replace HG := Lib.hid (Gr.trans HG3.out hg); clear hg
            go_wp2
            go_ret
            exact ⟨rfl, HG.out⟩
          · have hcl : ch.length = m + 1 + 1 := by rw [hmade.1, List.length_set, HLM.out]
            obtain ⟨c, hc, hcx, hcv, s0, s1, d0, d1⟩ := hmade.last (n := m) (q := (qt, u, qd)) (by rw [List.length_set, HLM.out]) (by rw [List.getElem?_set_self (by have := HLM.out; omega)])
            have hGc : ∀ x ∈ ch, x.isG := fun x hx => (hmade.2.2.2.1 x hx).2
            have hf : Fits ch := .inr fun x hx => by have := (hmade.2.2.2.1 x hx).1; omega
            have hne : ch ≠ [] := fun e => by rw [e] at hcl; simp at hcl
            have hv : valE ch (c.st + c.ti) = (Tx u, 0) := by
              unfold valE; rw [if_pos hmade.2.2.1, if_neg hne, hcv, hcx]
            have V := RetG.of4 fun w1 h => (ret_GValue (htab_gr (htab_gr HTAB.out HG3.out) h) ((HMX.out.gr HG3.out).gr h) ((HERR.out.gr HG3.out).gr h) (hrd.gr h) hGc hf hcc hcpm (show isJ (c.st + c.ti) from ⟨by omega, by omega⟩)).si hv
            rw [hcl] at V hcc
            have V := Lib.hid V
            obtain ⟨hck, hce⟩ := List.getElem?_eq_some_iff.1 hc
            obtain ⟨b, o, hbo, hat⟩ := hrd (m + 1) hck
            simp only [Option.some.injEq, Addr.mk.injEq, and_true] at hbo
            obtain ⟨rfl, rfl⟩ := hbo
            rw [hce, Nat.zero_add] at hat
            obtain ⟨cf, cx, cst, cti⟩ := c
            obtain ⟨c0, c1, c2, c3⟩ := hat
            simp only [Gl.f, Gl.x, Gl.st, Gl.ti] at c0 c1 c2 c3 s0 s1 d0 d1
            have V : Hid (RetG w2 27 #[.slice (some ⟨bb, 0, none⟩) (m + 1 + 1) cp, .int .i64 (cst + cti)] (.tuple #[.string (Tx u), .int .i64 0])) := V
            have hbl : bb < w2.heap.size := cell_lt c0
            have hz : (((m + 1 : Nat) : Int) == 0) = false := by simp; omega
            have hw2 : IntKind.i64.wrap (((m + 1 + 1 : Nat) : Int) - 1) = ((m + 1 : Nat) : Int) := by rw [IntWalk.i64_in _ (by omega)]; omega
            have hw3 : IntKind.i64.wrap (cst + cti) = cst + cti := IntWalk.i64_in _ (by omega)
            have hbeq := ba_beq (s := Tx u) rfl
            have HGz := Lib.hid (Gr.refl w2)
            have HR2 := Lib.hid ((Gr.refl w2).alloc (oGl cf cx cst cti))
            clear hrd hmade hcv hcx hGc hf hv hc hce hck hne HTS HGM
            rw [hcl]
            clear hcl
            generalize Tx u = tu at *
            go_wp2_with fail
            refine (V.out _ HR2.out).mono ?_
            rintro e w3 ⟨rfl, hg⟩
            have HG := Lib.hid (Gr.trans HG3.out (Gr.trans HR2.out hg))
            clear hg c0 c1 c2 c3 HR2 HGz HG3
            go_wp2_with fail
            refine (A3.out _ HG.out).mono ?_
            rintro e w1 ⟨rfl, hg⟩
            replace HG := Lib.hid (Gr.trans HG.out hg); clear hg
            go_wp2_with fail
            refine (A4.out _ HG.out).mono ?_
            rintro e w1 ⟨rfl, hg⟩
            replace HG := Lib.hid (Gr.trans HG.out hg); clear hg
            go_wp2_with fail
            refine (A5.out _ HG.out).mono ?_
            rintro e w1 ⟨rfl, hg⟩
            replace HG := Lib.hid (Gr.trans HG.out hg); clear hg
            go_wp2_with fail
            refine (A6.out _ HG.out).mono ?_
            rintro e w1 ⟨rfl, hg⟩
            replace HG := Lib.hid (Gr.trans HG.out hg); clear hg
            go_wp2_with fail
            refine (A7.out _ HG.out).mono ?_
            rintro e w1 ⟨rfl, hg⟩
            replace HG := Lib.hid (Gr.trans HG.out hg); clear hg
            go_wp2_with fail
            refine (T.out _ HG.out).mono ?_
            rintro e w1 ⟨rfl, hg⟩
            replace HG := Lib.hid (Gr.trans HG.out hg); clear hg
            go_wp2
            go_ret
            exact ⟨rfl, HG.out⟩
    · have hne : (glE f x st ti != 0) = true := by simpa using he
      have K := Lib.hid K
      clear htab hmx herr he hc hI h12
      generalize glE f x st ti = c at *
      generalize l.length = n at *
      intro w hg
      have HB := Lib.hid (Box4.new w f x st ti 24)
      have HG := Lib.hid (hg.alloc (oGl f x st ti))
      clear hg
      obtain ⟨k0, k1, k2, k3⟩ := id HB.out
      go_enter Tryz.func12, Tryz.ntmps12
      have F2 := F.out (w.alloc (oGl f x st ti))
      rw [World.size_alloc] at F2
      have F2 := Lib.hid F2
      go_wp2_with fail
      refine F2.out.mono ?_
      clear F2
      rintro e w1 ⟨rfl, hg⟩
      have hB := HB.out.gr hg
      replace HG := Lib.hid (Gr.trans HG.out hg)
      clear hg HB k0 k1 k2 k3
      have HB := Lib.hid hB
      obtain ⟨k0, k1, k2, k3⟩ := hB
      go_wp2_with fail
      refine (K.out _ HG.out).mono ?_
      rintro e w1 ⟨rfl, hg⟩
      have hB := HB.out.gr hg
      replace HG := Lib.hid (Gr.trans HG.out hg)
      clear hg HB k0 k1 k2 k3
      have HB := Lib.hid hB
      obtain ⟨k0, k1, k2, k3⟩ := hB
      clear HB k0 k1 k2 k3
      go_wp2_with fail
      refine (T.out _ HG.out).mono ?_
      rintro e w1 ⟨rfl, hg⟩
      replace HG := Lib.hid (Gr.trans HG.out hg); clear hg
      go_wp2
      go_ret
      exact ⟨rfl, HG.out⟩
  · rw [decide_eq_false h12] at F
    clear htab hmx herr hc hI h12
    generalize l.length = n at *
    intro w hg
    have HB := Lib.hid (Box4.new w f x st ti 24)
    have HG := Lib.hid (hg.alloc (oGl f x st ti))
    clear hg
    obtain ⟨k0, k1, k2, k3⟩ := id HB.out
    go_enter Tryz.func12, Tryz.ntmps12
    have F2 := F.out (w.alloc (oGl f x st ti))
    rw [World.size_alloc] at F2
    have F2 := Lib.hid F2
    go_wp2_with fail
    refine F2.out.mono ?_
    clear F2
    rintro e w1 ⟨rfl, hg⟩
    have hB := HB.out.gr hg
    replace HG := Lib.hid (Gr.trans HG.out hg)
    clear hg HB k0 k1 k2 k3
    have HB := Lib.hid hB
    obtain ⟨k0, k1, k2, k3⟩ := hB
    clear HB k0 k1 k2 k3
    go_wp2_with fail
    refine (T.out _ HG.out).mono ?_
    rintro e w1 ⟨rfl, hg⟩
    replace HG := Lib.hid (Gr.trans HG.out hg); clear hg
    go_wp2
    go_ret
    exact ⟨rfl, HG.out⟩
end
end Go.Proofs.YtffifpinnhaloaaGreatDoor
