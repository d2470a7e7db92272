/- CvUV: CvU, CvV, joined. -/
import Derived.Test.YtlbnibicehpobaaGreatDoorCvP
import Derived.Test.YtlbnibicehpobaaGreatDoorCvQ
import Derived.Test.YtlbnibicehpobaaGreatDoorLvD
import Derived.Test.YtlbnibicehpobaaGreatDoorGlA
import Derived.Test.YtlbnibicehpobaaGreatDoorCvF
set_option linter.unusedVariables false
set_option linter.unusedSimpArgs false

/- Curves: in, Value, At of the reference. -/
namespace Go.Proofs.YtlbnibicehpobaaGreatDoor
open Go.RowKit Go.Shelf
open Z
theorem sh_seg {k : Nat} {r : Rat} (h : Sh k r) {p q : Int × Int} (hp : lvP p) (hq : lvP q) (hx : p.1 < q.1) : Sh (k + 30) (segV p q r) := by
  obtain ⟨⟨p0, p1⟩, p2, p3⟩ := hp
  obtain ⟨⟨q0, q1⟩, q2, q3⟩ := hq
  have hn : (((q.1 - p.1 : Int)) : Rat) ≠ 0 := by
    have := Rat.intCast_pos.2 (show 0 < q.1 - p.1 by omega)
    grind
  have hd := sh_lvl (n := q.1 - p.1) (by omega) (by omega)
  unfold segV
  exact (((sh_lvl p2 p3).add (((sh_lvl q2 q3).sub (sh_lvl p2 p3)).mul ((h.sub (sh_lvl p0 p1)).div hd hn)))).mono (by omega)
/-- a region's end, cut -/
def CutQ (R : Act → World → Prop) : Exit → Act → World → Prop
  | .normal, a, w => R a w
  | _, _, _ => False
theorem region_cut {P : Program} {c : Code} {Q : Exit → Act → World → Prop} {A : Act} {W : World} (R : Act → Act → World → Prop) (h1 : c.wp P (CutQ (R A)) A W) (h2 : ∀ a w, R A a w → Q .normal a w) : c.wp P Q A W :=
  Code.wp_mono (fun e a w h => by
    cases e
    case normal => exact h2 a w h
    all_goals exact h.elim) h1
theorem two_new (W : World) (f t f' t' : Int) (ty : TypeId) : P2 ((W.alloc (.cells #[.int .i64 f, .int .i64 t] ty)).alloc (.cells #[.int .i64 f', .int .i64 t'] ty)) W.heap.size f t ∧ P2 ((W.alloc (.cells #[.int .i64 f, .int .i64 t] ty)).alloc (.cells #[.int .i64 f', .int .i64 t'] ty)) (W.heap.size + 1) f' t' := by
  refine ⟨(P2.new W f t ty).gr' ((Gr.refl _).alloc _), ?_⟩
  have := P2.new (W.alloc (.cells #[.int .i64 f, .int .i64 t] ty)) f' t' ty
  rwa [World.size_alloc] at this
section
variable {w0 : World}
set_option maxHeartbeats 1000000 in
set_option maxRecDepth 100000 in
theorem ret9_in {s : ByteArray} (hs : s.size ≤ 400000) : Ret w0 36 #[.string s] (.int .i64 (compE s)) := by
  have C1 := Lib.hid (r2_Check (w0 := w0) s hs)
  rcases chkS_cases s with h1 | ⟨a, rfl, ha⟩
  · rw [compE_err h1]
    have hne : (chkS s != 0) = true := by simpa using h1
    clear h1
    generalize chkS s = c at *
    intro w hg
    have HG := Lib.hid hg; clear hg
    go_enter Tryz.func36, Tryz.ntmps36
    go_wp2_with fail
    refine (C1.out _ HG.out).mono ?_
    rintro e w1 ⟨rfl, hg⟩
    replace HG := Lib.hid hg; clear hg
    go_wp2
    go_ret
    exact ⟨rfl, HG.out⟩
  · rw [chkS_RT ha] at C1
    rw [compE_RT ha]
    have C2 := Lib.hid (ret_OrderR (w0 := w0) ha.sh (lit_in 0 (by decide)).sh (by omega) (by omega))
    have C3 := Lib.hid (ret_Whole2 (w0 := w0) (n := 65535) (by omega) (by omega))
    have C4 := Lib.hid (ret_OrderR (w0 := w0) ha.sh (lit_in 65535 (by decide)).sh (by omega) (by omega))
    rw [← zero_text] at C2
    rw [RT_int] at C4
    have hl := lvlQ_cmp a
    clear ha
    generalize cmpQ a ((0 : Int) : Rat) = c at *
    generalize cmpQ a ((65535 : Int) : Rat) = d at *
    generalize lvlQ a = b at *
    generalize RT a = s at *
    generalize Tx 65535 = t at *
    rcases hl with ⟨h1, rfl⟩ | ⟨h1, h2, rfl⟩ | ⟨h1, h2, rfl⟩
    · intro w hg
      have HG := Lib.hid hg; clear hg
      go_enter Tryz.func36, Tryz.ntmps36
      go_wp2_with fail
      refine (C1.out _ HG.out).mono ?_
      rintro e w1 ⟨rfl, hg⟩
      replace HG := Lib.hid hg; clear hg
      go_wp2_with fail
      refine (C2.out _ HG.out).mono ?_
      rintro e w1 ⟨rfl, hg⟩
      replace HG := Lib.hid hg; clear hg
      go_wp2
      go_ret
      exact ⟨rfl, HG.out⟩
    · intro w hg
      have HG := Lib.hid hg; clear hg
      go_enter Tryz.func36, Tryz.ntmps36
      go_wp2_with fail
      refine (C1.out _ HG.out).mono ?_
      rintro e w1 ⟨rfl, hg⟩
      replace HG := Lib.hid hg; clear hg
      go_wp2_with fail
      refine (C2.out _ HG.out).mono ?_
      rintro e w1 ⟨rfl, hg⟩
      replace HG := Lib.hid hg; clear hg
      go_wp2_with fail
      refine (C3.out _ HG.out).mono ?_
      rintro e w1 ⟨rfl, hg⟩
      replace HG := Lib.hid hg; clear hg
      go_wp2_with fail
      refine (C4.out _ HG.out).mono ?_
      rintro e w1 ⟨rfl, hg⟩
      replace HG := Lib.hid hg; clear hg
      go_wp2
      go_ret
      exact ⟨rfl, HG.out⟩
    · intro w hg
      have HG := Lib.hid hg; clear hg
      go_enter Tryz.func36, Tryz.ntmps36
      go_wp2_with fail
      refine (C1.out _ HG.out).mono ?_
      rintro e w1 ⟨rfl, hg⟩
      replace HG := Lib.hid hg; clear hg
      go_wp2_with fail
      refine (C2.out _ HG.out).mono ?_
      rintro e w1 ⟨rfl, hg⟩
      replace HG := Lib.hid hg; clear hg
      go_wp2_with fail
      refine (C3.out _ HG.out).mono ?_
      rintro e w1 ⟨rfl, hg⟩
      replace HG := Lib.hid hg; clear hg
      go_wp2_with fail
      refine (C4.out _ HG.out).mono ?_
      rintro e w1 ⟨rfl, hg⟩
      replace HG := Lib.hid hg; clear hg
      go_wp2
      go_ret
      exact ⟨rfl, HG.out⟩

theorem P2.gr0 {w w' : World} {n : Nat} {f t : Int} (h : P2 w n f t) (hg : Gr w w') : P2 w' n f t := ⟨cv_cell hg h.c0, cv_cell hg h.c1⟩
set_option maxHeartbeats 8000000 in
set_option maxRecDepth 100000 in
theorem r9_Value {a : Option Addr} {cap k0 : Nat} {l : Pts} {r : Rat} (hc : Cv l) (hl : lvlQ r = true) (hr : Sh k0 r) (hk0 : k0 ≤ 5000) (w : World) (hp : PtAt w a l) :
    Calls Tryz.prog 37 #[.slice a l.length cap, .string (RT r)] w fun e w' => e = .returned (.string (RT (valC l r))) ∧ Gr w w' := by
  have h2 := hc.two
  have h16 := hc.most
  obtain ⟨b, off, rfl, hcell⟩ := hp.block (by omega)
  have hlv := lvlQ_iff.1 hl
  have CO : Hid (∀ x : Int, 0 ≤ x → x ≤ 65535 → RetG w 33 #[.int .i64 x] (.string (Tx x)) ∧ RetG w 34 #[.string (RT r), .string (Tx x)] (.int .i64 (cmpQ r (x : Rat))) ∧ RetG w 65 #[.string (RT r), .string (Tx x)] (.string (RT (r - (x : Rat))))) := Lib.hid fun x h0 h1 =>
    ⟨RetG.of4 fun w1 _ => ret_Whole2 (by omega) (by omega), RetG.of4 fun w1 _ => by
      have := ret_OrderR (w0 := w1) hr (sh_lvl h0 h1) (by omega) (by omega)
      rwa [RT_int] at this, RetG.of4 fun w1 _ => by
      have := ret_Minus (w0 := w1) hr (sh_lvl h0 h1) (by omega) (by omega)
      rwa [RT_int] at this⟩
  have CS : Hid (∀ p q : Int × Int, lvP p → lvP q → p.1 < q.1 → RetG w 33 #[.int .i64 (q.1 - p.1)] (.string (Tx (q.1 - p.1))) ∧ RetG w 64 #[.string (RT (r - (p.1 : Rat))), .string (Tx (q.1 - p.1))] (.string (RT ((r - (p.1 : Rat)) / ((q.1 - p.1 : Int) : Rat)))) ∧ RetG w 66 #[.string (Tx p.2), .string (Tx q.2), .string (RT ((r - (p.1 : Rat)) / ((q.1 - p.1 : Int) : Rat)))] (.string (RT (segV p q r)))) := Lib.hid fun p q hp hq hx => by
    obtain ⟨⟨p0, p1⟩, p2, p3⟩ := hp
    obtain ⟨⟨q0, q1⟩, q2, q3⟩ := hq
    have hn : (((q.1 - p.1 : Int)) : Rat) ≠ 0 := by
      have := Rat.intCast_pos.2 (show 0 < q.1 - p.1 by omega)
      grind
    have hd := sh_lvl (n := q.1 - p.1) (by omega) (by omega)
    have hm := hr.sub (sh_lvl p0 p1)
    refine ⟨RetG.of4 fun w1 _ => ret_Whole2 (by omega) (by omega), RetG.of4 fun w1 _ => ?_, RetG.of4 fun w1 _ => ?_⟩
    · have := ret_By (w0 := w1) hm hd (by omega) (by omega) hn
      rwa [RT_int] at this
    · have := ret_Mixed (w0 := w1) (sh_lvl p2 p3) (sh_lvl q2 q3) (hm.div hd hn) (by omega) (by omega) (by omega)
      rwa [RT_int, RT_int] at this
  have HV := Lib.hid hc
  have HLV := Lib.hid hlv
  have HP := Lib.hid hp
  obtain ⟨n, hn⟩ : ∃ n, l.length = n := ⟨_, rfl⟩
  have HN := Lib.hid hn
  rw [hn] at h2 h16 ⊢
  obtain ⟨V, hV⟩ : ∃ V, RT (valC l r) = V := ⟨_, rfl⟩
  rw [hV]
  have HVV := Lib.hid hV
  obtain ⟨s, hs⟩ : ∃ s, RT r = s := ⟨_, rfl⟩
  rw [hs] at CO ⊢
  clear hc hl hr hp hn hlv hcell hV hs
  go_enter Tryz.func37, Tryz.ntmps37
  go_wp2
  go_loopw [5] (fun i wr => ∃ k : Nat, i = .int .i64 ((k : Int) + 1) ∧ k + 1 < n ∧ Hid (∃ h : k < l.length, (l[k].1 : Rat) ≤ r) ∧ Hid (Gr w wr)) (fun i _ => n - (intOf i).toNat)
  case atStart => exact ⟨0, rfl, by omega, Lib.hid ⟨by rw [HN.out]; omega, by rw [HV.out.at0]; exact HLV.out.1⟩, Lib.hid (Gr.refl w)⟩
  case round =>
    obtain ⟨k, rfl, hk, HK, HG⟩ := hrel
    have l0 : k < l.length := by rw [HN.out]; omega
    have l1 : k + 1 < l.length := by rw [HN.out]; omega
    obtain ⟨d0, d1⟩ := pts_set (HP.out.gr HG.out) (k + 1) l1
    obtain ⟨e0, e1⟩ := pts_set (HP.out.gr HG.out) k l0
    have hlq := HV.out.lv _ (List.getElem_mem l1)
    have hlp := HV.out.lv _ (List.getElem_mem l0)
    obtain ⟨c1, c2, c3⟩ := CO.out l[k + 1].1 hlq.1.1 hlq.1.2
    have C1 := Lib.hid c1
    have C2 := Lib.hid c2
    have hcmp := cmpQ_cases r (l[k + 1].1 : Rat)
    have HNX : Hid ((l[k + 1].1 : Rat) < r → k + 2 < n) := Lib.hid fun h => by
      apply Classical.byContradiction
      intro hh
      have e : l.length - 1 = k + 1 := by rw [HN.out]; omega
      have e2 := HV.out.atL
      simp only [e] at e2
      rw [e2] at h
      have e3 : ((65535 : Int) : Rat) = 65535 := rfl
      have := HLV.out.2
      grind
    have HSEG : Hid (r ≤ (l[k + 1].1 : Rat) → V = RT (segV l[k] l[k + 1] r)) := Lib.hid fun h => by
      obtain ⟨h5, h6⟩ := HK.out
      rw [← HVV.out, valC_at HV.out.asc (k := k) ⟨l1, h6, h⟩]
    have HNEXT : Hid ((l[k + 1].1 : Rat) < r → ∃ h : k + 1 < l.length, (l[k + 1].1 : Rat) ≤ r) := Lib.hid fun h => ⟨l1, Rat.le_of_lt h⟩
    have hxx := HV.out.asc k l1
    generalize l[k + 1] = q at *
    generalize l[k] = p at *
    obtain ⟨qx, qy⟩ := q
    obtain ⟨px, py⟩ := p
    simp only at d0 d1 e0 e1 C1 C2 hcmp HNX HSEG HNEXT hxx
    have hkc : off + (k + 1) * 2 = off + (k + 1) * 2 := rfl
    by_cases hgt : (qx : Rat) < r
    · have hC : cmpQ r (qx : Rat) = 1 := by
        rcases hcmp with ⟨h1, h2, h3⟩ | ⟨h1, h2, h3⟩ | ⟨h1, h2, h3⟩
        · grind
        · grind
        · exact h2
      rw [hC] at C2
      have hk2 := HNX.out hgt
      have HN2 := Lib.hid (HNEXT.out hgt)
      clear hcmp HNX HSEG HNEXT hlq hlp c1 c2 c3 hC d1 e0 e1
      go_wp2_with fail
      refine (C1.out _ HG.out).mono ?_; rintro e w1 ⟨rfl, hg⟩
      have HG1 := Lib.hid (Gr.trans HG.out hg)
      clear hg
      go_wp2_with fail
      refine (C2.out _ HG1.out).mono ?_; rintro e w2 ⟨rfl, hg⟩
      have HG2 := Lib.hid (Gr.trans HG1.out hg)
      clear hg HG HG1 d0
      go_wp2
      go_roundw
      case rel => exact ⟨k + 1, by go_num, by omega, HN2, HG2⟩
      case measure => simp [intOf]; omega
    · have hC : cmpQ r (qx : Rat) = 0 ∨ cmpQ r (qx : Rat) = -1 := by
        rcases hcmp with ⟨h1, h2, h3⟩ | ⟨h1, h2, h3⟩ | ⟨h1, h2, h3⟩
        · exact .inr h2
        · exact .inl h2
        · exact absurd h1 hgt
      have hC2 : ¬ 0 < cmpQ r (qx : Rat) := by omega
      have HSV := Lib.hid (HSEG.out (Rat.not_lt.1 hgt))
      obtain ⟨x1, x2, x3⟩ := CS.out (px, py) (qx, qy) hlp hlq hxx
      have CW1 := Lib.hid (CO.out px hlp.1.1 hlp.1.2).1
      have CM := Lib.hid (CO.out px hlp.1.1 hlp.1.2).2.2
      have CY1 := Lib.hid (CO.out py hlp.2.1 hlp.2.2).1
      have CY2 := Lib.hid (CO.out qy hlq.2.1 hlq.2.2).1
      simp only at x1 x2 x3
      have X1 := Lib.hid x1
      have X2 := Lib.hid x2
      have X3 := Lib.hid x3
      generalize cmpQ r (qx : Rat) = cc at *
      generalize RT (segV (px, py) (qx, qy) r) = R at *
      generalize RT ((r - (px : Rat)) / ((qx - px : Int) : Rat)) = S at *
      generalize RT (r - (px : Rat)) = D at *
      have hkw : IntKind.i64.wrap ((k : Int) + 1 - 1) = (k : Int) := by rw [Int.add_sub_cancel]; exact IntWalk.i64_in _ (by omega)
      have hkk : IntKind.i64.wrap (k : Int) = (k : Int) := IntWalk.i64_in _ (by omega)
      have hxw : IntKind.i64.wrap (qx - px) = qx - px := IntWalk.i64_in _ (by have := hlp.1; have := hlq.1; simp only at *; omega)
      clear hcmp HNX HSEG HNEXT hlq hlp c1 c2 c3 hC x1 x2 x3 hgt
      go_wp2_with fail
      refine (C1.out _ HG.out).mono ?_; rintro e w1 ⟨rfl, hg⟩
      have HG1 := Lib.hid (Gr.trans HG.out hg)
      replace d0 := cv_cell hg d0
      replace d1 := cv_cell hg d1
      replace e0 := cv_cell hg e0
      replace e1 := cv_cell hg e1
      clear hg
      go_wp2_with fail
      refine (C2.out _ HG1.out).mono ?_; rintro e w2 ⟨rfl, hg⟩
      have HG2 := Lib.hid (Gr.trans HG1.out hg)
      replace d0 := cv_cell hg d0
      replace d1 := cv_cell hg d1
      replace e0 := cv_cell hg e0
      replace e1 := cv_cell hg e1
      clear hg HG HG1
      go_wp2_with fail
      refine region_cut (R := fun A a w' => ∃ p q : Nat, a = (((((((((((A.put (some 20) (.slice (some ⟨b, off, none⟩) n cap)).put (some 21) (.int .i64 ((k : Int) + 1))).put (some 22) (.int .i64 k)).put (some 23) (.pointer (some ⟨b, off + k * 2, none⟩))).put (some 24) (.agg #[.int .i64 px, .int .i64 py])).put (some 25) (.slice (some ⟨b, off, none⟩) n cap)).put (some 26) (.int .i64 ((k : Int) + 1))).put (some 27) (.pointer (some ⟨b, off + (k + 1) * 2, none⟩))).put (some 28) (.agg #[.int .i64 qx, .int .i64 qy])).put (some 6) (.pointer (some ⟨p, 0, none⟩))).put (some 7) (.pointer (some ⟨q, 0, none⟩))) ∧ Gr w2 w' ∧ P2 w' p px py ∧ P2 w' q qx qy) ?_ ?_
      · have hS0 : (fun w' : World => Gr w2 w') w2.drew := (Gr.refl _).drew
        refine wp_region_held (S := fun w' : World => Gr w2 w') (by kernel_rfl) ?_
        change wpAnyH _ _ _ _ _ _ _ _ w2.drew
        generalize w2.drew = wd at *
        refine wpAnyH_take (i := 0) (v := .slice (some ⟨b, off, none⟩) n cap) rfl (by kernel_rfl) (by kernel_rfl) (by kernel_rfl) (fun _ _ _ h => h) (Or.inl ⟨by rfl, ?_⟩) hS0 ?_
        · intro w hSw; go_simp
        try simp only [Act.put, List.getElem_toArray, List.getElem_cons_succ, List.getElem_cons_zero, List.setIfInBounds_toArray, List.set_cons_zero, List.set_cons_succ]
        refine wpAnyH_take (i := 1) (v := .int .i64 ((k : Int) + 1)) rfl (by kernel_rfl) (by kernel_rfl) (by kernel_rfl) (fun _ _ _ h => h) (Or.inl ⟨by rfl, ?_⟩) hS0 ?_
        · intro w hSw; go_simp
        try simp only [Act.put, List.getElem_toArray, List.getElem_cons_succ, List.getElem_cons_zero, List.setIfInBounds_toArray, List.set_cons_zero, List.set_cons_succ]
        refine wpAnyH_take (i := 2) (v := .int .i64 k) rfl (by kernel_rfl) (by kernel_rfl) (by kernel_rfl) (fun _ _ _ h => h) (Or.inl ⟨by rfl, ?_⟩) hS0 ?_
        · intro w hSw; go_simp
        try simp only [Act.put, List.getElem_toArray, List.getElem_cons_succ, List.getElem_cons_zero, List.setIfInBounds_toArray, List.set_cons_zero, List.set_cons_succ]
        refine wpAnyH_take (i := 3) (v := .pointer (some ⟨b, off + k * 2, none⟩)) rfl (by kernel_rfl) (by kernel_rfl) (by kernel_rfl) (fun _ _ _ h => h) (Or.inl ⟨by rfl, ?_⟩) hS0 ?_
        · intro w hSw; go_simp; first | done | (intro h; exfalso; omega)
        try simp only [Act.put, List.getElem_toArray, List.getElem_cons_succ, List.getElem_cons_zero, List.setIfInBounds_toArray, List.set_cons_zero, List.set_cons_succ]
        refine wpAnyH_take (i := 4) (v := .agg #[.int .i64 px, .int .i64 py]) rfl (by kernel_rfl) (by kernel_rfl) (by kernel_rfl) (fun _ _ _ h => h) (Or.inl ⟨by rfl, ?_⟩) hS0 ?_
        · intro w hSw; have s0 := cv_cell hSw e0; have s1 := cv_cell hSw e1; go_simp
        try simp only [Act.put, List.getElem_toArray, List.getElem_cons_succ, List.getElem_cons_zero, List.setIfInBounds_toArray, List.set_cons_zero, List.set_cons_succ]
        refine wpAnyH_take (i := 5) (v := .slice (some ⟨b, off, none⟩) n cap) rfl (by kernel_rfl) (by kernel_rfl) (by kernel_rfl) (fun _ _ _ h => h) (Or.inl ⟨by rfl, ?_⟩) hS0 ?_
        · intro w hSw; go_simp
        try simp only [Act.put, List.getElem_toArray, List.getElem_cons_succ, List.getElem_cons_zero, List.setIfInBounds_toArray, List.set_cons_zero, List.set_cons_succ]
        refine wpAnyH_take (i := 6) (v := .int .i64 ((k : Int) + 1)) rfl (by kernel_rfl) (by kernel_rfl) (by kernel_rfl) (fun _ _ _ h => h) (Or.inl ⟨by rfl, ?_⟩) hS0 ?_
        · intro w hSw; go_simp
        try simp only [Act.put, List.getElem_toArray, List.getElem_cons_succ, List.getElem_cons_zero, List.setIfInBounds_toArray, List.set_cons_zero, List.set_cons_succ]
        refine wpAnyH_take (i := 7) (v := .pointer (some ⟨b, off + (k + 1) * 2, none⟩)) rfl (by kernel_rfl) (by kernel_rfl) (by kernel_rfl) (fun _ _ _ h => h) (Or.inl ⟨by rfl, ?_⟩) hS0 ?_
        · intro w hSw; go_simp; first | done | (intro h; exfalso; omega)
        try simp only [Act.put, List.getElem_toArray, List.getElem_cons_succ, List.getElem_cons_zero, List.setIfInBounds_toArray, List.set_cons_zero, List.set_cons_succ]
        refine wpAnyH_take (i := 8) (v := .agg #[.int .i64 qx, .int .i64 qy]) rfl (by kernel_rfl) (by kernel_rfl) (by kernel_rfl) (fun _ _ _ h => h) (Or.inl ⟨by rfl, ?_⟩) hS0 ?_
        · intro w hSw; have s0 := cv_cell hSw d0; have s1 := cv_cell hSw d1; go_simp
        try simp only [Act.put, List.getElem_toArray, List.getElem_cons_succ, List.getElem_cons_zero, List.setIfInBounds_toArray, List.set_cons_zero, List.set_cons_succ]
        refine wpAnyH_ready (rs := [9, 10]) (by kernel_rfl) (by simp) (AllReadyH.cons rfl (fun K' hK' => ?_) (AllReadyH.cons rfl (fun K' hK' => ?_) AllReadyH.nil))
        · go_simp
          refine hK'.out _ _ ?hs (fun _ => ?_)
          case hs => first | exact (hS0.alloc _) | exact ((hS0.alloc _).alloc _)
          clear hK' K'
          try simp only [Act.put, List.getElem_toArray, List.getElem_cons_succ, List.getElem_cons_zero, List.setIfInBounds_toArray, List.set_cons_zero, List.set_cons_succ]
          refine wpAnyH_ready (rs := [10]) (by kernel_rfl) (by simp) (AllReadyH.cons rfl (fun K' hK' => ?_) AllReadyH.nil)
          go_simp
          refine hK'.out _ _ ?hs (fun _ => ?_)
          case hs => first | exact (hS0.alloc _) | exact ((hS0.alloc _).alloc _)
          clear hK' K'
          try simp only [Act.put, List.getElem_toArray, List.getElem_cons_succ, List.getElem_cons_zero, List.setIfInBounds_toArray, List.set_cons_zero, List.set_cons_succ]
          refine wpAnyH_ready (rs := [11]) (by kernel_rfl) (by simp) (AllReadyH.cons rfl (fun K' hK' => ?_) AllReadyH.nil)
          go_simp
          refine hK'.out _ _ ?hs (fun _ => ?_)
          case hs => first | exact (hS0.alloc _) | exact ((hS0.alloc _).alloc _)
          clear hK' K'
          try simp only [Act.put, List.getElem_toArray, List.getElem_cons_succ, List.getElem_cons_zero, List.setIfInBounds_toArray, List.set_cons_zero, List.set_cons_succ]
          refine wpAnyH_ready (rs := [12]) (by kernel_rfl) (by simp) (AllReadyH.cons rfl (fun K' hK' => ?_) AllReadyH.nil)
          go_simp
          refine hK'.out _ _ ?hs (fun _ => ?_)
          case hs => first | exact (hS0.alloc _) | exact ((hS0.alloc _).alloc _)
          clear hK' K'
          try simp only [Act.put, List.getElem_toArray, List.getElem_cons_succ, List.getElem_cons_zero, List.setIfInBounds_toArray, List.set_cons_zero, List.set_cons_succ]
          refine wpAnyH_done (by kernel_rfl) ?_ _
          unfold CutQ; first | exact ⟨wd.heap.size, wd.heap.size + 1, by simp only [Act.put, List.getElem_toArray, List.getElem_cons_succ, List.getElem_cons_zero, List.setIfInBounds_toArray, List.set_cons_zero, List.set_cons_succ], (hS0.alloc _).alloc _, (two_new wd px py qx qy 52).1, (two_new wd px py qx qy 52).2⟩ | exact ⟨wd.heap.size + 1, wd.heap.size, by simp only [Act.put, List.getElem_toArray, List.getElem_cons_succ, List.getElem_cons_zero, List.setIfInBounds_toArray, List.set_cons_zero, List.set_cons_succ], (hS0.alloc _).alloc _, (two_new wd qx qy px py 52).2, (two_new wd qx qy px py 52).1⟩
        · go_simp
          refine hK'.out _ _ ?hs (fun _ => ?_)
          case hs => first | exact (hS0.alloc _) | exact ((hS0.alloc _).alloc _)
          clear hK' K'
          try simp only [Act.put, List.getElem_toArray, List.getElem_cons_succ, List.getElem_cons_zero, List.setIfInBounds_toArray, List.set_cons_zero, List.set_cons_succ]
          refine wpAnyH_ready (rs := [9]) (by kernel_rfl) (by simp) (AllReadyH.cons rfl (fun K' hK' => ?_) AllReadyH.nil)
          go_simp
          refine hK'.out _ _ ?hs (fun _ => ?_)
          case hs => first | exact (hS0.alloc _) | exact ((hS0.alloc _).alloc _)
          clear hK' K'
          try simp only [Act.put, List.getElem_toArray, List.getElem_cons_succ, List.getElem_cons_zero, List.setIfInBounds_toArray, List.set_cons_zero, List.set_cons_succ]
          refine wpAnyH_ready (rs := [11]) (by kernel_rfl) (by simp) (AllReadyH.cons rfl (fun K' hK' => ?_) AllReadyH.nil)
          go_simp
          refine hK'.out _ _ ?hs (fun _ => ?_)
          case hs => first | exact (hS0.alloc _) | exact ((hS0.alloc _).alloc _)
          clear hK' K'
          try simp only [Act.put, List.getElem_toArray, List.getElem_cons_succ, List.getElem_cons_zero, List.setIfInBounds_toArray, List.set_cons_zero, List.set_cons_succ]
          refine wpAnyH_ready (rs := [12]) (by kernel_rfl) (by simp) (AllReadyH.cons rfl (fun K' hK' => ?_) AllReadyH.nil)
          go_simp
          refine hK'.out _ _ ?hs (fun _ => ?_)
          case hs => first | exact (hS0.alloc _) | exact ((hS0.alloc _).alloc _)
          clear hK' K'
          try simp only [Act.put, List.getElem_toArray, List.getElem_cons_succ, List.getElem_cons_zero, List.setIfInBounds_toArray, List.set_cons_zero, List.set_cons_succ]
          refine wpAnyH_done (by kernel_rfl) ?_ _
          unfold CutQ; first | exact ⟨wd.heap.size, wd.heap.size + 1, by simp only [Act.put, List.getElem_toArray, List.getElem_cons_succ, List.getElem_cons_zero, List.setIfInBounds_toArray, List.set_cons_zero, List.set_cons_succ], (hS0.alloc _).alloc _, (two_new wd px py qx qy 52).1, (two_new wd px py qx qy 52).2⟩ | exact ⟨wd.heap.size + 1, wd.heap.size, by simp only [Act.put, List.getElem_toArray, List.getElem_cons_succ, List.getElem_cons_zero, List.setIfInBounds_toArray, List.set_cons_zero, List.set_cons_succ], (hS0.alloc _).alloc _, (two_new wd qx qy px py 52).2, (two_new wd qx qy px py 52).1⟩
      · rintro a w3 ⟨p, q, rfl, hg, hp, hq⟩
        have HG3 := Lib.hid (Gr.trans HG2.out hg)
        have HPP := Lib.hid hp
        have HPQ := Lib.hid hq
        clear hg hp hq d0 d1 e0 e1 HG2
        try simp only [Act.put, List.getElem_toArray, List.getElem_cons_succ, List.getElem_cons_zero, List.setIfInBounds_toArray, List.set_cons_zero, List.set_cons_succ]
        go_wp2_with fail
        have hS0 : (fun w' : World => Gr w3 w') w3.drew := (Gr.refl _).drew
        refine wp_region_held (S := fun w' : World => Gr w3 w') (by kernel_rfl) ?_
        change wpAnyH _ _ _ _ _ _ _ _ w3.drew
        refine wpAnyH_take (i := 0) (v := .string s) rfl (by kernel_rfl) (by kernel_rfl) (by kernel_rfl) (fun _ _ _ h => h) (Or.inl ⟨by rfl, ?_⟩) hS0 ?_
        · intro w hSw; go_simp
        try simp only [Act.put, List.getElem_toArray, List.getElem_cons_succ, List.getElem_cons_zero, List.setIfInBounds_toArray, List.set_cons_zero, List.set_cons_succ]
        refine wpAnyH_take (i := 1) (v := .pointer (some ⟨p, 0, none⟩)) rfl (by kernel_rfl) (by kernel_rfl) (by kernel_rfl) (fun _ _ _ h => h) (Or.inl ⟨by rfl, ?_⟩) hS0 ?_
        · intro w hSw; go_simp
        try simp only [Act.put, List.getElem_toArray, List.getElem_cons_succ, List.getElem_cons_zero, List.setIfInBounds_toArray, List.set_cons_zero, List.set_cons_succ]
        refine wpAnyH_take (i := 2) (v := .int .i64 px) rfl (by kernel_rfl) (by kernel_rfl) (by kernel_rfl) (fun _ _ _ h => h) (Or.inl ⟨by rfl, ?_⟩) hS0 ?_
        · intro w hSw; have s0 := cv_cell hSw HPP.out.c0; have s1 := cv_cell hSw HPP.out.c1; go_simp
        try simp only [Act.put, List.getElem_toArray, List.getElem_cons_succ, List.getElem_cons_zero, List.setIfInBounds_toArray, List.set_cons_zero, List.set_cons_succ]
        refine wpAnyH_take (i := 5) (v := .pointer (some ⟨q, 0, none⟩)) rfl (by kernel_rfl) (by kernel_rfl) (by kernel_rfl) (fun _ _ _ h => h) (Or.inl ⟨by rfl, ?_⟩) hS0 ?_
        · intro w hSw; go_simp
        try simp only [Act.put, List.getElem_toArray, List.getElem_cons_succ, List.getElem_cons_zero, List.setIfInBounds_toArray, List.set_cons_zero, List.set_cons_succ]
        refine wpAnyH_take (i := 6) (v := .int .i64 qx) rfl (by kernel_rfl) (by kernel_rfl) (by kernel_rfl) (fun _ _ _ h => h) (Or.inl ⟨by rfl, ?_⟩) hS0 ?_
        · intro w hSw; have s0 := cv_cell hSw HPQ.out.c0; have s1 := cv_cell hSw HPQ.out.c1; go_simp
        try simp only [Act.put, List.getElem_toArray, List.getElem_cons_succ, List.getElem_cons_zero, List.setIfInBounds_toArray, List.set_cons_zero, List.set_cons_succ]
        refine wpAnyH_take (i := 7) (v := .pointer (some ⟨p, 0, none⟩)) rfl (by kernel_rfl) (by kernel_rfl) (by kernel_rfl) (fun _ _ _ h => h) (Or.inl ⟨by rfl, ?_⟩) hS0 ?_
        · intro w hSw; go_simp
        try simp only [Act.put, List.getElem_toArray, List.getElem_cons_succ, List.getElem_cons_zero, List.setIfInBounds_toArray, List.set_cons_zero, List.set_cons_succ]
        refine wpAnyH_take (i := 8) (v := .int .i64 px) rfl (by kernel_rfl) (by kernel_rfl) (by kernel_rfl) (fun _ _ _ h => h) (Or.inl ⟨by rfl, ?_⟩) hS0 ?_
        · intro w hSw; have s0 := cv_cell hSw HPP.out.c0; have s1 := cv_cell hSw HPP.out.c1; go_simp
        try simp only [Act.put, List.getElem_toArray, List.getElem_cons_succ, List.getElem_cons_zero, List.setIfInBounds_toArray, List.set_cons_zero, List.set_cons_succ]
        refine wpAnyH_take (i := 9) (v := .int .i64 (qx - px)) rfl (by kernel_rfl) (by kernel_rfl) (by kernel_rfl) (fun _ _ _ h => h) (Or.inl ⟨by rfl, ?_⟩) hS0 ?_
        · intro w hSw; go_simp
        try simp only [Act.put, List.getElem_toArray, List.getElem_cons_succ, List.getElem_cons_zero, List.setIfInBounds_toArray, List.set_cons_zero, List.set_cons_succ]
        refine wpAnyH_ready (rs := [3]) (by kernel_rfl) (by simp) (AllReadyH.cons rfl (fun K' hK' => ?_) AllReadyH.nil)
        go_simp
        refine (CW1.out _ (Gr.trans HG3.out hS0)).mono ?_; rintro e w31 ⟨rfl, hgw31⟩
        refine hK'.out _ _ ((hS0).trans hgw31) (fun hS1 => ?_)
        clear hK' K'
        try simp only [Act.put, List.getElem_toArray, List.getElem_cons_succ, List.getElem_cons_zero, List.setIfInBounds_toArray, List.set_cons_zero, List.set_cons_succ]
        refine wpAnyH_ready (rs := [4]) (by kernel_rfl) (by simp) (AllReadyH.cons rfl (fun K' hK' => ?_) AllReadyH.nil)
        go_simp
        refine (CM.out _ (Gr.trans HG3.out hS1)).mono ?_; rintro e w32 ⟨rfl, hgw32⟩
        refine hK'.out _ _ ((hS1).trans hgw32) (fun hS2 => ?_)
        clear hK' K'
        try simp only [Act.put, List.getElem_toArray, List.getElem_cons_succ, List.getElem_cons_zero, List.setIfInBounds_toArray, List.set_cons_zero, List.set_cons_succ]
        refine wpAnyH_ready (rs := [10]) (by kernel_rfl) (by simp) (AllReadyH.cons rfl (fun K' hK' => ?_) AllReadyH.nil)
        go_simp
        refine (X1.out _ (Gr.trans HG3.out hS2)).mono ?_; rintro e w33 ⟨rfl, hgw33⟩
        refine hK'.out _ _ ((hS2).trans hgw33) (fun hS3 => ?_)
        clear hK' K'
        try simp only [Act.put, List.getElem_toArray, List.getElem_cons_succ, List.getElem_cons_zero, List.setIfInBounds_toArray, List.set_cons_zero, List.set_cons_succ]
        refine wpAnyH_ready (rs := [11]) (by kernel_rfl) (by simp) (AllReadyH.cons rfl (fun K' hK' => ?_) AllReadyH.nil)
        go_simp
        refine (X2.out _ (Gr.trans HG3.out hS3)).mono ?_; rintro e w34 ⟨rfl, hgw34⟩
        refine hK'.out _ _ ((hS3).trans hgw34) (fun hS4 => ?_)
        clear hK' K'
        try simp only [Act.put, List.getElem_toArray, List.getElem_cons_succ, List.getElem_cons_zero, List.setIfInBounds_toArray, List.set_cons_zero, List.set_cons_succ]
        refine wpAnyH_take (i := 12) (v := .string S) rfl (by kernel_rfl) (by kernel_rfl) (by kernel_rfl) (fun _ _ _ h => h) (Or.inl ⟨by rfl, ?_⟩) hS4 ?_
        · intro w hSw; go_simp
        try simp only [Act.put, List.getElem_toArray, List.getElem_cons_succ, List.getElem_cons_zero, List.setIfInBounds_toArray, List.set_cons_zero, List.set_cons_succ]
        refine wpAnyH_done (by kernel_rfl) ?_ _
        have HPP4 := Lib.hid (HPP.out.gr0 hS4)
        have HPQ4 := Lib.hid (HPQ.out.gr0 hS4)
        have HG4 := Lib.hid (Gr.trans HG3.out hS4)
        clear hS0 hS1 hS2 hS3 hS4 hgw31 hgw32 hgw33 hgw34 HPP HPQ HG3
        go_wp2_with fail
        have hS0 : (fun w' : World => Gr w34 w') w34.drew := (Gr.refl _).drew
        refine wp_region_held (S := fun w' : World => Gr w34 w') (by kernel_rfl) ?_
        change wpAnyH _ _ _ _ _ _ _ _ w34.drew
        refine wpAnyH_take (i := 0) (v := .pointer (some ⟨p, 1, none⟩)) rfl (by kernel_rfl) (by kernel_rfl) (by kernel_rfl) (fun _ _ _ h => h) (Or.inl ⟨by rfl, ?_⟩) hS0 ?_
        · intro w hSw; go_simp
        try simp only [Act.put, List.getElem_toArray, List.getElem_cons_succ, List.getElem_cons_zero, List.setIfInBounds_toArray, List.set_cons_zero, List.set_cons_succ]
        refine wpAnyH_take (i := 1) (v := .int .i64 py) rfl (by kernel_rfl) (by kernel_rfl) (by kernel_rfl) (fun _ _ _ h => h) (Or.inl ⟨by rfl, ?_⟩) hS0 ?_
        · intro w hSw; have s0 := cv_cell hSw HPP4.out.c0; have s1 := cv_cell hSw HPP4.out.c1; go_simp
        try simp only [Act.put, List.getElem_toArray, List.getElem_cons_succ, List.getElem_cons_zero, List.setIfInBounds_toArray, List.set_cons_zero, List.set_cons_succ]
        refine wpAnyH_take (i := 3) (v := .pointer (some ⟨q, 1, none⟩)) rfl (by kernel_rfl) (by kernel_rfl) (by kernel_rfl) (fun _ _ _ h => h) (Or.inl ⟨by rfl, ?_⟩) hS0 ?_
        · intro w hSw; go_simp
        try simp only [Act.put, List.getElem_toArray, List.getElem_cons_succ, List.getElem_cons_zero, List.setIfInBounds_toArray, List.set_cons_zero, List.set_cons_succ]
        refine wpAnyH_take (i := 4) (v := .int .i64 qy) rfl (by kernel_rfl) (by kernel_rfl) (by kernel_rfl) (fun _ _ _ h => h) (Or.inl ⟨by rfl, ?_⟩) hS0 ?_
        · intro w hSw; have s0 := cv_cell hSw HPQ4.out.c0; have s1 := cv_cell hSw HPQ4.out.c1; go_simp
        try simp only [Act.put, List.getElem_toArray, List.getElem_cons_succ, List.getElem_cons_zero, List.setIfInBounds_toArray, List.set_cons_zero, List.set_cons_succ]
        refine wpAnyH_take (i := 6) (v := .string S) rfl (by kernel_rfl) (by kernel_rfl) (by kernel_rfl) (fun _ _ _ h => h) (Or.inl ⟨by rfl, ?_⟩) hS0 ?_
        · intro w hSw; go_simp
        try simp only [Act.put, List.getElem_toArray, List.getElem_cons_succ, List.getElem_cons_zero, List.setIfInBounds_toArray, List.set_cons_zero, List.set_cons_succ]
        refine wpAnyH_ready (rs := [2]) (by kernel_rfl) (by simp) (AllReadyH.cons rfl (fun K' hK' => ?_) AllReadyH.nil)
        go_simp
        refine (CY1.out _ (Gr.trans HG4.out hS0)).mono ?_; rintro e w41 ⟨rfl, hgw41⟩
        refine hK'.out _ _ ((hS0).trans hgw41) (fun hS1 => ?_)
        clear hK' K'
        try simp only [Act.put, List.getElem_toArray, List.getElem_cons_succ, List.getElem_cons_zero, List.setIfInBounds_toArray, List.set_cons_zero, List.set_cons_succ]
        refine wpAnyH_ready (rs := [5]) (by kernel_rfl) (by simp) (AllReadyH.cons rfl (fun K' hK' => ?_) AllReadyH.nil)
        go_simp
        refine (CY2.out _ (Gr.trans HG4.out hS1)).mono ?_; rintro e w42 ⟨rfl, hgw42⟩
        refine hK'.out _ _ ((hS1).trans hgw42) (fun hS2 => ?_)
        clear hK' K'
        try simp only [Act.put, List.getElem_toArray, List.getElem_cons_succ, List.getElem_cons_zero, List.setIfInBounds_toArray, List.set_cons_zero, List.set_cons_succ]
        refine wpAnyH_ready (rs := [7]) (by kernel_rfl) (by simp) (AllReadyH.cons rfl (fun K' hK' => ?_) AllReadyH.nil)
        go_simp
        refine (X3.out _ (Gr.trans HG4.out hS2)).mono ?_; rintro e w43 ⟨rfl, hgw43⟩
        refine hK'.out _ _ ((hS2).trans hgw43) (fun hS3 => ?_)
        clear hK' K'
        try simp only [Act.put, List.getElem_toArray, List.getElem_cons_succ, List.getElem_cons_zero, List.setIfInBounds_toArray, List.set_cons_zero, List.set_cons_succ]
        refine wpAnyH_take (i := 8) (v := .string R) rfl (by kernel_rfl) (by kernel_rfl) (by kernel_rfl) (fun _ _ _ h => h) (Or.inl ⟨by rfl, ?_⟩) hS3 ?_
        · intro w hSw; go_simp
        try simp only [Act.put, List.getElem_toArray, List.getElem_cons_succ, List.getElem_cons_zero, List.setIfInBounds_toArray, List.set_cons_zero, List.set_cons_succ]
        refine wpAnyH_done (by kernel_rfl) ?_ _
        have HG5 := Lib.hid (Gr.trans HG4.out hS3)
        clear hS0 hS1 hS2 hS3 hgw41 hgw42 hgw43 HPP4 HPQ4 HG4
        go_wp2
        go_ret
        exact ⟨by rw [HSV.out]; rfl, HG5.out⟩
def atC (l : Pts) (s : ByteArray) : ByteArray × Int := if cvC l ≠ 0 then (⟨#[]⟩, cvC l) else if compE s ≠ 0 then (⟨#[]⟩, compE s) else (RT (valC l (rv s)), 0)
set_option maxHeartbeats 2000000 in
set_option maxRecDepth 100000 in
theorem r9_At {a : Option Addr} {cap : Nat} {l : Pts} {s : ByteArray} (w : World) (hp : PtAt w a l) (hJ : ∀ p ∈ l, isJ p.1 ∧ isJ p.2) (hlen : l.length ≤ 10000000000000) (hs : s.size ≤ 4000) :
    Calls Tryz.prog 14 #[.slice a l.length cap, .string s] w fun e w' => e = .returned (vSI (atC l s)) ∧ Gr w w' := by
  have C := Lib.hid (r9_Check a l cap w hp hJ hlen)
  unfold atC
  by_cases h : cvC l = 0
  · rw [if_neg (by simp [h])]
    rw [h] at C
    have CI := Lib.hid (RetG.of4 (w0 := w) fun w1 _ => ret9_in (w0 := w1) (s := s) (by omega))
    by_cases hv : compE s = 0
    · rw [if_neg (by simp [hv])]
      rw [hv] at CI
      obtain ⟨r, rfl, hr, hl⟩ := compE_zero hv
      obtain ⟨r', e1, e2, e3⟩ := text_sh (s := RT r) (k := 4000) (chkS_RT hr) hs
      have e4 := RT_inj e1
      subst e4
      have CV := Lib.hid (fun w' (hg : Gr w w') => r9_Value (cap := cap) ((cvC_iff l).1 h) hl e2 (by omega) w' (hp.gr hg))
      rw [rv_RT]
      generalize RT (valC l r) = V at *
      generalize RT r = t at *
      generalize l.length = n at *
      unfold vSI
      clear hp hJ h hv hr hl e1 e2 e3
      go_enter Tryz.func14, Tryz.ntmps14
      go_wp2_with fail
      refine C.out.mono ?_; rintro e w1 ⟨rfl, hg⟩
      have HG1 := Lib.hid hg
      clear hg C
      go_wp2_with fail
      refine (CI.out _ HG1.out).mono ?_; rintro e w2 ⟨rfl, hg⟩
      have HG2 := Lib.hid (Gr.trans HG1.out hg)
      clear hg HG1
      go_wp2_with fail
      refine (CV.out _ HG2.out).mono ?_; rintro e w3 ⟨rfl, hg⟩
      have HG3 := Lib.hid (Gr.trans HG2.out hg)
      clear hg HG2 CV
      go_wp2
      go_ret2
      exact ⟨rfl, HG3.out⟩
    · rw [if_pos hv]
      generalize compE s = K at *
      generalize l.length = n at *
      have hk : (K == 0) = false := by rw [beq_eq_false_iff_ne]; exact hv
      unfold vSI
      clear hp hJ h
      go_enter Tryz.func14, Tryz.ntmps14
      go_wp2_with fail
      refine C.out.mono ?_; rintro e w1 ⟨rfl, hg⟩
      have HG1 := Lib.hid hg
      clear hg C
      go_wp2_with fail
      refine (CI.out _ HG1.out).mono ?_; rintro e w2 ⟨rfl, hg⟩
      have HG2 := Lib.hid (Gr.trans HG1.out hg)
      clear hg HG1
      go_wp2
      go_ret2
      exact ⟨rfl, HG2.out⟩
  · rw [if_pos h]
    generalize cvC l = K at *
    generalize l.length = n at *
    have hk : (K == 0) = false := by rw [beq_eq_false_iff_ne]; exact h
    unfold vSI
    clear hp hJ
    go_enter Tryz.func14, Tryz.ntmps14
    go_wp2_with fail
    refine C.out.mono ?_; rintro e w1 ⟨rfl, hg⟩
    have HG1 := Lib.hid hg
    clear hg
    go_wp2
    go_ret2
    exact ⟨rfl, HG1.out⟩
end
end Go.Proofs.YtlbnibicehpobaaGreatDoor

/- Curves: Tidy of the reference. -/
namespace Go.Proofs.YtlbnibicehpobaaGreatDoor.Z
open Go
/-- whether the k-th point stays -/
def keepAt (l : Pts) (k : Nat) : Bool :=
  match l[k - 1]?, l[k]?, l[k + 1]? with
  | some p, some b, some d => !(decide (0 < k) && colC p b d)
  | _, _, _ => true
def tidyJ (l : Pts) : Nat → Pts
  | 0 => []
  | j + 1 => if keepAt l j = true then tidyJ l j ++ (l[j]?.toList) else tidyJ l j
theorem keepAt_in {l : Pts} {k : Nat} (h : k + 2 < l.length) : keepAt l (k + 1) = !(colC (l[k]'(by omega)) (l[k + 1]'(by omega)) l[k + 2]) := by
  unfold keepAt
  rw [Nat.add_sub_cancel, List.getElem?_eq_getElem (by omega), List.getElem?_eq_getElem (by omega), List.getElem?_eq_getElem (by omega), decide_eq_true (by omega)]; rfl
theorem keepAt_last {l : Pts} {k : Nat} (h : l.length ≤ k + 1) : keepAt l k = true := by
  unfold keepAt
  rw [List.getElem?_eq_none (l := l) (i := k + 1) (by omega)]
  split <;> simp_all
theorem keepAt_first (l : Pts) : keepAt l 0 = true := by
  unfold keepAt
  split <;> simp_all
theorem tidyJ_len (l : Pts) : ∀ j, (tidyJ l j).length ≤ j
  | 0 => Nat.le_refl _
  | j + 1 => by
    have := tidyJ_len l j
    unfold tidyJ
    split
    · rw [List.length_append]
      have : (l[j]?.toList).length ≤ 1 := by cases l[j]? <;> simp
      omega
    · omega
theorem tidyJ_keep {l : Pts} {j : Nat} (h : j < l.length) (hk : keepAt l j = true) : tidyJ l (j + 1) = tidyJ l j ++ [l[j]] := by
  rw [tidyJ, if_pos hk, List.getElem?_eq_getElem h]; rfl
theorem tidyJ_drop {l : Pts} {j : Nat} (hk : keepAt l j = false) : tidyJ l (j + 1) = tidyJ l j := by
  rw [tidyJ, if_neg (by rw [hk]; simp)]
theorem tidyJ_all {l : Pts} (h1 : 1 ≤ l.length) : tidyJ l l.length = tidyP l := by
  have key : ∀ j (hj : j < l.length), tidyJ l (j + 1) ++ tidyT l[j] (l.drop (j + 1)) = tidyP l := by
    intro j
    induction j with
    | zero =>
      intro hj
      rw [tidyJ_keep hj (keepAt_first l)]
      cases l with
      | nil => simp at hj
      | cons a l => rfl
    | succ j ih =>
      intro hj
      have ih' := ih (by omega)
      rw [List.drop_eq_getElem_cons hj] at ih'
      by_cases hl : j + 2 < l.length
      · rw [List.drop_eq_getElem_cons hl] at ih' ⊢
        have hk := keepAt_in (k := j) hl
        rw [tidyT_cons] at ih'
        by_cases hc : colC l[j] l[j + 1] l[j + 2] = true
        · rw [if_pos hc] at ih'
          rw [tidyJ_drop (by rw [hk, hc]; rfl)]
          exact ih'
        · rw [if_neg hc] at ih'
          rw [tidyJ_keep hj (by rw [hk, Bool.eq_false_iff.2 hc]; rfl), List.append_assoc]
          exact ih'
      · rw [List.drop_of_length_le (i := j + 1 + 1) (by omega)] at ih' ⊢
        rw [tidyJ_keep hj (keepAt_last (by omega))]
        simpa [tidyT] using ih'
  have := key (l.length - 1) (by omega)
  rw [show l.length - 1 + 1 = l.length by omega, List.drop_length] at this
  simpa [tidyT] using this
def tidyC (l : Pts) : Pts × Int := if cvC l ≠ 0 then ([], cvC l) else (tidyP l, 0)
theorem colC_ref (p b d : Int × Int) : ((b.2 - p.2) * (d.1 - p.1) == (d.2 - p.2) * (b.1 - p.1)) = colC p b d := by
  unfold colC
  rw [Bool.eq_iff_iff, beq_iff_eq, decide_eq_true_eq]
  have e1 : (b.2 - p.2) * (d.1 - p.1) = (b.2 - p.2) * (d.1 - b.1) + (b.2 - p.2) * (b.1 - p.1) := by rw [← Int.mul_add]; congr 1; omega
  have e2 : (d.2 - p.2) * (b.1 - p.1) = (d.2 - b.2) * (b.1 - p.1) + (b.2 - p.2) * (b.1 - p.1) := by rw [← Int.add_mul]; congr 1; omega
  rw [e1, e2]; omega
end Go.Proofs.YtlbnibicehpobaaGreatDoor.Z
namespace Go.Proofs.YtlbnibicehpobaaGreatDoor
open Go.RowKit Go.Shelf
open Z
theorem three_new (W : World) (f t f' t' f2 t2 : Int) (ty : TypeId) : P2 (((W.alloc (.cells #[.int .i64 f, .int .i64 t] ty)).alloc (.cells #[.int .i64 f', .int .i64 t'] ty)).alloc (.cells #[.int .i64 f2, .int .i64 t2] ty)) W.heap.size f t ∧ P2 (((W.alloc (.cells #[.int .i64 f, .int .i64 t] ty)).alloc (.cells #[.int .i64 f', .int .i64 t'] ty)).alloc (.cells #[.int .i64 f2, .int .i64 t2] ty)) (W.heap.size + 1) f' t' ∧ P2 (((W.alloc (.cells #[.int .i64 f, .int .i64 t] ty)).alloc (.cells #[.int .i64 f', .int .i64 t'] ty)).alloc (.cells #[.int .i64 f2, .int .i64 t2] ty)) (W.heap.size + 2) f2 t2 := by
  obtain ⟨h1, h2⟩ := two_new W f t f' t' ty
  refine ⟨h1.gr' ((Gr.refl _).alloc _), h2.gr' ((Gr.refl _).alloc _), ?_⟩
  have := P2.new ((W.alloc (.cells #[.int .i64 f, .int .i64 t] ty)).alloc (.cells #[.int .i64 f', .int .i64 t'] ty)) f2 t2 ty
  rwa [World.size_alloc, World.size_alloc] at this
set_option maxRecDepth 100000 in
set_option maxHeartbeats 8000000 in
theorem r9_Tidy (a : Option Addr) (R : Pts) (cap : Nat) (w : World) (hR : PtAt w a R) (hJ : ∀ p ∈ R, isJ p.1 ∧ isJ p.2) (hlen : R.length ≤ 10000000000000) :
    Calls Tryz.prog 30 #[.slice a R.length cap] w fun e w' => ∃ v, e = .returned (.tuple #[v, .int .i64 (tidyC R).2]) ∧ OwnC w.heap.size w' v (tidyC R).1 ∧ Gr w w' := by
  obtain ⟨i0, hi, hz0, hz1, hz2⟩ := info_parts Tryz.infoPt
  have C := Lib.hid (r9_Check a R cap w hR hJ hlen)
  unfold tidyC
  by_cases h : cvC R = 0
  · rw [if_neg (by simp [h])]
    rw [h] at C
    have h2 := cvC_len h
    obtain ⟨b, off, rfl, hc⟩ := hR.block (by omega)
    have HC := Lib.hid hc
    have HLV := Lib.hid (fun p hp => cvL_lvl h p hp)
    have HALL := Lib.hid (tidyJ_all (l := R) (by omega))
    obtain ⟨T, hT⟩ : ∃ T, tidyP R = T := ⟨_, rfl⟩
    rw [hT] at HALL ⊢
    obtain ⟨n, hn⟩ : ∃ n, R.length = n := ⟨_, rfl⟩
    have HN := Lib.hid hn
    rw [hn] at hlen C HALL ⊢
    obtain ⟨m, hm⟩ : ∃ m, n = m + 2 := ⟨n - 2, by omega⟩
    subst hm
    have hn16 : m ≤ 14 := by omega
    clear hR hJ h h2 hc hn hT
    have hkm : (((m + 2 : Nat)) : Int) = (m : Int) + 2 := by omega
    have hw1 : IntKind.i64.wrap ((m : Int) + 2 - 1) = (m : Int) + 1 := by rw [show (m : Int) + 2 - 1 = (m : Int) + 1 by omega]; exact IntWalk.i64_in _ (by omega)
    go_enter Tryz.func30, Tryz.ntmps30
    go_wp2_with fail
    refine C.out.mono ?_; rintro e w1 ⟨rfl, hg⟩
    have HG1 := Lib.hid hg
    clear hg C
    go_wp2
    go_loopw [5, 6] (fun v i wr => ∃ j : Nat, i = .int .i64 j ∧ j ≤ m + 2 ∧ Hid (OwnC w.heap.size wr v (tidyJ R j)) ∧ Hid (Gr w wr)) (fun _ i _ => m + 2 - (intOf i).toNat)
    case atStart => exact ⟨0, rfl, Nat.zero_le _, Lib.hid (OwnC.nil _ _), HG1⟩
    case round =>
      obtain ⟨j, rfl, hj, HO, HG⟩ := hrel
      by_cases hlt : j < m + 2
      · have l0 : j < R.length := by rw [HN.out]; exact hlt
        obtain ⟨d0, d1⟩ := HC.out j l0
        replace d0 := cv_cell HG.out d0
        replace d1 := cv_cell HG.out d1
        have HK := Lib.hid (fun hk => tidyJ_keep (l := R) l0 hk)
        have HD := Lib.hid (fun hk => tidyJ_drop (l := R) (j := j) hk)
        have hxl : (tidyJ R j).length + 1 ≤ 1000000 := by have := tidyJ_len R j; omega
        by_cases hin : 0 < j ∧ j < m + 1
        · obtain ⟨k, hk⟩ : ∃ k, j = k + 1 := ⟨j - 1, by omega⟩
          obtain ⟨q, hq⟩ : ∃ q, q = j + 1 := ⟨_, rfl⟩
          have l1 : q < R.length := by rw [HN.out]; omega
          have l2 : k < R.length := by rw [HN.out]; omega
          have hka : keepAt R j = !(((R[j].2 - R[k].2) * (R[q].1 - R[k].1) == (R[q].2 - R[k].2) * (R[j].1 - R[k].1))) := by
            subst hk; subst hq
            rw [colC_ref]; exact keepAt_in l1
          obtain ⟨e0, e1⟩ := HC.out k l2
          replace e0 := cv_cell HG.out e0
          replace e1 := cv_cell HG.out e1
          obtain ⟨g0, g1⟩ := HC.out q l1
          replace g0 := cv_cell HG.out g0
          replace g1 := cv_cell HG.out g1
          have hv0 := HLV.out _ (List.getElem_mem l0)
          have hv1 := HLV.out _ (List.getElem_mem l2)
          have hv2 := HLV.out _ (List.getElem_mem l1)
          have j1 : IntKind.i64.wrap ((j : Int) - 1) = (k : Int) := by rw [show (j : Int) - 1 = (k : Int) by omega]; exact IntWalk.i64_in _ (by omega)
          have j2 : IntKind.i64.wrap ((j : Int) + 1) = (q : Int) := by rw [show (j : Int) + 1 = (q : Int) by omega]; exact IntWalk.i64_in _ (by omega)
          have j2' : IntKind.i64.wrap ((j : Int) + 1) = (q : Int) := j2
          have b1 : (k : Int) < (m : Int) + 2 := by omega
          have b2 : (q : Int) < (m : Int) + 2 := by omega
          have b3 : (j : Int) < (m : Int) + 2 := by omega
          have hq' : q ≤ m + 2 := by omega
          have HQ := Lib.hid hq
          rw [show j + 1 = q from hq.symm] at HK HD
          generalize keepAt R j = KA at *
          generalize tidyJ R j = xs at *
          generalize R[j] = x at *
          generalize R[k] = pp at *
          generalize R[q] = qq at *
          obtain ⟨f, t⟩ := x
          obtain ⟨pf, pt⟩ := pp
          obtain ⟨qf, qt⟩ := qq
          simp only at d0 d1 e0 e1 g0 g1 hv0 hv1 hv2 hka HK
          have m1 := mul_lim (x := t - pt) (y := qf - pf) (by omega) (by omega)
          have m2 := mul_lim (x := qt - pt) (y := f - pf) (by omega) (by omega)
          have w1' : IntKind.i64.wrap (t - pt) = t - pt := IntWalk.i64_in _ (by omega)
          have w2' : IntKind.i64.wrap (qf - pf) = qf - pf := IntWalk.i64_in _ (by omega)
          have w3' : IntKind.i64.wrap (qt - pt) = qt - pt := IntWalk.i64_in _ (by omega)
          have w4' : IntKind.i64.wrap (f - pf) = f - pf := IntWalk.i64_in _ (by omega)
          have w5' : IntKind.i64.wrap ((t - pt) * (qf - pf)) = (t - pt) * (qf - pf) := IntWalk.i64_in _ (by omega)
          have w6' : IntKind.i64.wrap ((qt - pt) * (f - pf)) = (qt - pt) * (f - pf) := IntWalk.i64_in _ (by omega)
          have t1 : decide (0 < j) = true := decide_eq_true (by omega)
          have t2 : decide ((j : Int) < (m : Int) + 1) = true := decide_eq_true (by omega)
          have t4 : decide (j < m + 1) = true := decide_eq_true (by omega)
          clear m1 m2 l0 l1 l2 hv0 hv1 hv2 hk hq hin
          go_wp2_with fail
          refine region_cut (R := fun A a w' => ∃ x1 x2 x3 : Nat, a = (((((((((((((((((A.put (some 30) (.slice (some ⟨b, off, none⟩) (m + 2) cap)).put (some 31) (.int .i64 j)).put (some 32) (.int .i64 k)).put (some 33) (.pointer (some ⟨b, off + k * 2, none⟩))).put (some 34) (.agg #[.int .i64 pf, .int .i64 pt])).put (some 35) (.slice (some ⟨b, off, none⟩) (m + 2) cap)).put (some 36) (.int .i64 j)).put (some 37) (.pointer (some ⟨b, off + j * 2, none⟩))).put (some 38) (.agg #[.int .i64 f, .int .i64 t])).put (some 39) (.slice (some ⟨b, off, none⟩) (m + 2) cap)).put (some 40) (.int .i64 j)).put (some 41) (.int .i64 q)).put (some 42) (.pointer (some ⟨b, off + q * 2, none⟩))).put (some 43) (.agg #[.int .i64 qf, .int .i64 qt])).put (some 7) (.pointer (some ⟨x1, 0, none⟩))).put (some 8) (.pointer (some ⟨x2, 0, none⟩))).put (some 9) (.pointer (some ⟨x3, 0, none⟩))) ∧ Gr wr w' ∧ P2 w' x1 pf pt ∧ P2 w' x2 f t ∧ P2 w' x3 qf qt) ?_ ?_
          · have hS0 : (fun w' : World => Gr wr w') wr.drew := (Gr.refl _).drew
            refine wp_region_held (S := fun w' : World => Gr wr w') (by kernel_rfl) ?_
            change wpAnyH _ _ _ _ _ _ _ _ wr.drew
            generalize wr.drew = wd at *
            refine wpAnyH_take (i := 0) (v := (.slice (some ⟨b, off, none⟩) (m + 2) cap)) rfl (by kernel_rfl) (by kernel_rfl) (by kernel_rfl) (fun _ _ _ h => h) (Or.inl ⟨by rfl, ?_⟩) hS0 ?_
            · intro w hSw; go_simp
            try simp only [Act.put, List.getElem_toArray, List.getElem_cons_succ, List.getElem_cons_zero, List.setIfInBounds_toArray, List.set_cons_zero, List.set_cons_succ]
            refine wpAnyH_take (i := 1) (v := (.int .i64 j)) rfl (by kernel_rfl) (by kernel_rfl) (by kernel_rfl) (fun _ _ _ h => h) (Or.inl ⟨by rfl, ?_⟩) hS0 ?_
            · intro w hSw; go_simp
            try simp only [Act.put, List.getElem_toArray, List.getElem_cons_succ, List.getElem_cons_zero, List.setIfInBounds_toArray, List.set_cons_zero, List.set_cons_succ]
            refine wpAnyH_take (i := 2) (v := (.int .i64 k)) rfl (by kernel_rfl) (by kernel_rfl) (by kernel_rfl) (fun _ _ _ h => h) (Or.inl ⟨by rfl, ?_⟩) hS0 ?_
            · intro w hSw; go_simp
            try simp only [Act.put, List.getElem_toArray, List.getElem_cons_succ, List.getElem_cons_zero, List.setIfInBounds_toArray, List.set_cons_zero, List.set_cons_succ]
            refine wpAnyH_take (i := 3) (v := (.pointer (some ⟨b, off + k * 2, none⟩))) rfl (by kernel_rfl) (by kernel_rfl) (by kernel_rfl) (fun _ _ _ h => h) (Or.inl ⟨by rfl, ?_⟩) hS0 ?_
            · intro w hSw; go_simp; first | done | (intro h; exfalso; omega)
            try simp only [Act.put, List.getElem_toArray, List.getElem_cons_succ, List.getElem_cons_zero, List.setIfInBounds_toArray, List.set_cons_zero, List.set_cons_succ]
            refine wpAnyH_take (i := 4) (v := (.agg #[.int .i64 pf, .int .i64 pt])) rfl (by kernel_rfl) (by kernel_rfl) (by kernel_rfl) (fun _ _ _ h => h) (Or.inl ⟨by rfl, ?_⟩) hS0 ?_
            · intro w hSw; have s0 := cv_cell hSw e0; have s1 := cv_cell hSw e1; go_simp
            try simp only [Act.put, List.getElem_toArray, List.getElem_cons_succ, List.getElem_cons_zero, List.setIfInBounds_toArray, List.set_cons_zero, List.set_cons_succ]
            refine wpAnyH_take (i := 5) (v := (.slice (some ⟨b, off, none⟩) (m + 2) cap)) rfl (by kernel_rfl) (by kernel_rfl) (by kernel_rfl) (fun _ _ _ h => h) (Or.inl ⟨by rfl, ?_⟩) hS0 ?_
            · intro w hSw; go_simp
            try simp only [Act.put, List.getElem_toArray, List.getElem_cons_succ, List.getElem_cons_zero, List.setIfInBounds_toArray, List.set_cons_zero, List.set_cons_succ]
            refine wpAnyH_take (i := 6) (v := (.int .i64 j)) rfl (by kernel_rfl) (by kernel_rfl) (by kernel_rfl) (fun _ _ _ h => h) (Or.inl ⟨by rfl, ?_⟩) hS0 ?_
            · intro w hSw; go_simp
            try simp only [Act.put, List.getElem_toArray, List.getElem_cons_succ, List.getElem_cons_zero, List.setIfInBounds_toArray, List.set_cons_zero, List.set_cons_succ]
            refine wpAnyH_take (i := 7) (v := (.pointer (some ⟨b, off + j * 2, none⟩))) rfl (by kernel_rfl) (by kernel_rfl) (by kernel_rfl) (fun _ _ _ h => h) (Or.inl ⟨by rfl, ?_⟩) hS0 ?_
            · intro w hSw; go_simp; first | done | (intro h; exfalso; omega)
            try simp only [Act.put, List.getElem_toArray, List.getElem_cons_succ, List.getElem_cons_zero, List.setIfInBounds_toArray, List.set_cons_zero, List.set_cons_succ]
            refine wpAnyH_take (i := 8) (v := (.agg #[.int .i64 f, .int .i64 t])) rfl (by kernel_rfl) (by kernel_rfl) (by kernel_rfl) (fun _ _ _ h => h) (Or.inl ⟨by rfl, ?_⟩) hS0 ?_
            · intro w hSw; have s0 := cv_cell hSw d0; have s1 := cv_cell hSw d1; go_simp
            try simp only [Act.put, List.getElem_toArray, List.getElem_cons_succ, List.getElem_cons_zero, List.setIfInBounds_toArray, List.set_cons_zero, List.set_cons_succ]
            refine wpAnyH_take (i := 9) (v := (.slice (some ⟨b, off, none⟩) (m + 2) cap)) rfl (by kernel_rfl) (by kernel_rfl) (by kernel_rfl) (fun _ _ _ h => h) (Or.inl ⟨by rfl, ?_⟩) hS0 ?_
            · intro w hSw; go_simp
            try simp only [Act.put, List.getElem_toArray, List.getElem_cons_succ, List.getElem_cons_zero, List.setIfInBounds_toArray, List.set_cons_zero, List.set_cons_succ]
            refine wpAnyH_take (i := 10) (v := (.int .i64 j)) rfl (by kernel_rfl) (by kernel_rfl) (by kernel_rfl) (fun _ _ _ h => h) (Or.inl ⟨by rfl, ?_⟩) hS0 ?_
            · intro w hSw; go_simp
            try simp only [Act.put, List.getElem_toArray, List.getElem_cons_succ, List.getElem_cons_zero, List.setIfInBounds_toArray, List.set_cons_zero, List.set_cons_succ]
            refine wpAnyH_take (i := 11) (v := (.int .i64 q)) rfl (by kernel_rfl) (by kernel_rfl) (by kernel_rfl) (fun _ _ _ h => h) (Or.inl ⟨by rfl, ?_⟩) hS0 ?_
            · intro w hSw; go_simp
            try simp only [Act.put, List.getElem_toArray, List.getElem_cons_succ, List.getElem_cons_zero, List.setIfInBounds_toArray, List.set_cons_zero, List.set_cons_succ]
            refine wpAnyH_take (i := 12) (v := (.pointer (some ⟨b, off + q * 2, none⟩))) rfl (by kernel_rfl) (by kernel_rfl) (by kernel_rfl) (fun _ _ _ h => h) (Or.inl ⟨by rfl, ?_⟩) hS0 ?_
            · intro w hSw; go_simp; first | done | (intro h; exfalso; omega)
            try simp only [Act.put, List.getElem_toArray, List.getElem_cons_succ, List.getElem_cons_zero, List.setIfInBounds_toArray, List.set_cons_zero, List.set_cons_succ]
            refine wpAnyH_take (i := 13) (v := (.agg #[.int .i64 qf, .int .i64 qt])) rfl (by kernel_rfl) (by kernel_rfl) (by kernel_rfl) (fun _ _ _ h => h) (Or.inl ⟨by rfl, ?_⟩) hS0 ?_
            · intro w hSw; have s0 := cv_cell hSw g0; have s1 := cv_cell hSw g1; go_simp
            try simp only [Act.put, List.getElem_toArray, List.getElem_cons_succ, List.getElem_cons_zero, List.setIfInBounds_toArray, List.set_cons_zero, List.set_cons_succ]
            refine wpAnyH_ready (rs := [14, 15, 16]) (by kernel_rfl) (by simp) (AllReadyH.cons rfl (fun K' hK' => ?_) (AllReadyH.cons rfl (fun K' hK' => ?_) (AllReadyH.cons rfl (fun K' hK' => ?_) AllReadyH.nil)))
            · go_simp
              refine hK'.out _ _ ?hs (fun _ => ?_)
              case hs => first | exact (hS0.alloc _) | exact ((hS0.alloc _).alloc _) | exact (((hS0.alloc _).alloc _).alloc _)
              clear hK' K'
              try simp only [Act.put, List.getElem_toArray, List.getElem_cons_succ, List.getElem_cons_zero, List.setIfInBounds_toArray, List.set_cons_zero, List.set_cons_succ]
              refine wpAnyH_ready (rs := [15, 16]) (by kernel_rfl) (by simp) (AllReadyH.cons rfl (fun K' hK' => ?_) (AllReadyH.cons rfl (fun K' hK' => ?_) AllReadyH.nil))
              · go_simp
                refine hK'.out _ _ ?hs (fun _ => ?_)
                case hs => first | exact (hS0.alloc _) | exact ((hS0.alloc _).alloc _) | exact (((hS0.alloc _).alloc _).alloc _)
                clear hK' K'
                try simp only [Act.put, List.getElem_toArray, List.getElem_cons_succ, List.getElem_cons_zero, List.setIfInBounds_toArray, List.set_cons_zero, List.set_cons_succ]
                refine wpAnyH_ready (rs := [16]) (by kernel_rfl) (by simp) (AllReadyH.cons rfl (fun K' hK' => ?_) AllReadyH.nil)
                go_simp
                refine hK'.out _ _ ?hs (fun _ => ?_)
                case hs => first | exact (hS0.alloc _) | exact ((hS0.alloc _).alloc _) | exact (((hS0.alloc _).alloc _).alloc _)
                clear hK' K'
                try simp only [Act.put, List.getElem_toArray, List.getElem_cons_succ, List.getElem_cons_zero, List.setIfInBounds_toArray, List.set_cons_zero, List.set_cons_succ]
                refine wpAnyH_ready (rs := [17]) (by kernel_rfl) (by simp) (AllReadyH.cons rfl (fun K' hK' => ?_) AllReadyH.nil)
                go_simp
                refine hK'.out _ _ ?hs (fun _ => ?_)
                case hs => first | exact (hS0.alloc _) | exact ((hS0.alloc _).alloc _) | exact (((hS0.alloc _).alloc _).alloc _)
                clear hK' K'
                try simp only [Act.put, List.getElem_toArray, List.getElem_cons_succ, List.getElem_cons_zero, List.setIfInBounds_toArray, List.set_cons_zero, List.set_cons_succ]
                refine wpAnyH_ready (rs := [18]) (by kernel_rfl) (by simp) (AllReadyH.cons rfl (fun K' hK' => ?_) AllReadyH.nil)
                go_simp
                refine hK'.out _ _ ?hs (fun _ => ?_)
                case hs => first | exact (hS0.alloc _) | exact ((hS0.alloc _).alloc _) | exact (((hS0.alloc _).alloc _).alloc _)
                clear hK' K'
                try simp only [Act.put, List.getElem_toArray, List.getElem_cons_succ, List.getElem_cons_zero, List.setIfInBounds_toArray, List.set_cons_zero, List.set_cons_succ]
                refine wpAnyH_ready (rs := [19]) (by kernel_rfl) (by simp) (AllReadyH.cons rfl (fun K' hK' => ?_) AllReadyH.nil)
                go_simp
                refine hK'.out _ _ ?hs (fun _ => ?_)
                case hs => first | exact (hS0.alloc _) | exact ((hS0.alloc _).alloc _) | exact (((hS0.alloc _).alloc _).alloc _)
                clear hK' K'
                try simp only [Act.put, List.getElem_toArray, List.getElem_cons_succ, List.getElem_cons_zero, List.setIfInBounds_toArray, List.set_cons_zero, List.set_cons_succ]
                refine wpAnyH_done (by kernel_rfl) ?_ _
                unfold CutQ; first | exact ⟨wd.heap.size, wd.heap.size + 1, wd.heap.size + 2, by simp only [Act.put, List.getElem_toArray, List.getElem_cons_succ, List.getElem_cons_zero, List.setIfInBounds_toArray, List.set_cons_zero, List.set_cons_succ], ((hS0.alloc _).alloc _).alloc _, (three_new wd pf pt f t qf qt 52).1, (three_new wd pf pt f t qf qt 52).2.1, (three_new wd pf pt f t qf qt 52).2.2⟩ | exact ⟨wd.heap.size, wd.heap.size + 2, wd.heap.size + 1, by simp only [Act.put, List.getElem_toArray, List.getElem_cons_succ, List.getElem_cons_zero, List.setIfInBounds_toArray, List.set_cons_zero, List.set_cons_succ], ((hS0.alloc _).alloc _).alloc _, (three_new wd pf pt qf qt f t 52).1, (three_new wd pf pt qf qt f t 52).2.2, (three_new wd pf pt qf qt f t 52).2.1⟩ | exact ⟨wd.heap.size + 1, wd.heap.size, wd.heap.size + 2, by simp only [Act.put, List.getElem_toArray, List.getElem_cons_succ, List.getElem_cons_zero, List.setIfInBounds_toArray, List.set_cons_zero, List.set_cons_succ], ((hS0.alloc _).alloc _).alloc _, (three_new wd f t pf pt qf qt 52).2.1, (three_new wd f t pf pt qf qt 52).1, (three_new wd f t pf pt qf qt 52).2.2⟩ | exact ⟨wd.heap.size + 2, wd.heap.size, wd.heap.size + 1, by simp only [Act.put, List.getElem_toArray, List.getElem_cons_succ, List.getElem_cons_zero, List.setIfInBounds_toArray, List.set_cons_zero, List.set_cons_succ], ((hS0.alloc _).alloc _).alloc _, (three_new wd f t qf qt pf pt 52).2.2, (three_new wd f t qf qt pf pt 52).1, (three_new wd f t qf qt pf pt 52).2.1⟩ | exact ⟨wd.heap.size + 1, wd.heap.size + 2, wd.heap.size, by simp only [Act.put, List.getElem_toArray, List.getElem_cons_succ, List.getElem_cons_zero, List.setIfInBounds_toArray, List.set_cons_zero, List.set_cons_succ], ((hS0.alloc _).alloc _).alloc _, (three_new wd qf qt pf pt f t 52).2.1, (three_new wd qf qt pf pt f t 52).2.2, (three_new wd qf qt pf pt f t 52).1⟩ | exact ⟨wd.heap.size + 2, wd.heap.size + 1, wd.heap.size, by simp only [Act.put, List.getElem_toArray, List.getElem_cons_succ, List.getElem_cons_zero, List.setIfInBounds_toArray, List.set_cons_zero, List.set_cons_succ], ((hS0.alloc _).alloc _).alloc _, (three_new wd qf qt f t pf pt 52).2.2, (three_new wd qf qt f t pf pt 52).2.1, (three_new wd qf qt f t pf pt 52).1⟩
              · go_simp
                refine hK'.out _ _ ?hs (fun _ => ?_)
                case hs => first | exact (hS0.alloc _) | exact ((hS0.alloc _).alloc _) | exact (((hS0.alloc _).alloc _).alloc _)
                clear hK' K'
                try simp only [Act.put, List.getElem_toArray, List.getElem_cons_succ, List.getElem_cons_zero, List.setIfInBounds_toArray, List.set_cons_zero, List.set_cons_succ]
                refine wpAnyH_ready (rs := [15]) (by kernel_rfl) (by simp) (AllReadyH.cons rfl (fun K' hK' => ?_) AllReadyH.nil)
                go_simp
                refine hK'.out _ _ ?hs (fun _ => ?_)
                case hs => first | exact (hS0.alloc _) | exact ((hS0.alloc _).alloc _) | exact (((hS0.alloc _).alloc _).alloc _)
                clear hK' K'
                try simp only [Act.put, List.getElem_toArray, List.getElem_cons_succ, List.getElem_cons_zero, List.setIfInBounds_toArray, List.set_cons_zero, List.set_cons_succ]
                refine wpAnyH_ready (rs := [17]) (by kernel_rfl) (by simp) (AllReadyH.cons rfl (fun K' hK' => ?_) AllReadyH.nil)
                go_simp
                refine hK'.out _ _ ?hs (fun _ => ?_)
                case hs => first | exact (hS0.alloc _) | exact ((hS0.alloc _).alloc _) | exact (((hS0.alloc _).alloc _).alloc _)
                clear hK' K'
                try simp only [Act.put, List.getElem_toArray, List.getElem_cons_succ, List.getElem_cons_zero, List.setIfInBounds_toArray, List.set_cons_zero, List.set_cons_succ]
                refine wpAnyH_ready (rs := [18]) (by kernel_rfl) (by simp) (AllReadyH.cons rfl (fun K' hK' => ?_) AllReadyH.nil)
                go_simp
                refine hK'.out _ _ ?hs (fun _ => ?_)
                case hs => first | exact (hS0.alloc _) | exact ((hS0.alloc _).alloc _) | exact (((hS0.alloc _).alloc _).alloc _)
                clear hK' K'
                try simp only [Act.put, List.getElem_toArray, List.getElem_cons_succ, List.getElem_cons_zero, List.setIfInBounds_toArray, List.set_cons_zero, List.set_cons_succ]
                refine wpAnyH_ready (rs := [19]) (by kernel_rfl) (by simp) (AllReadyH.cons rfl (fun K' hK' => ?_) AllReadyH.nil)
                go_simp
                refine hK'.out _ _ ?hs (fun _ => ?_)
                case hs => first | exact (hS0.alloc _) | exact ((hS0.alloc _).alloc _) | exact (((hS0.alloc _).alloc _).alloc _)
                clear hK' K'
                try simp only [Act.put, List.getElem_toArray, List.getElem_cons_succ, List.getElem_cons_zero, List.setIfInBounds_toArray, List.set_cons_zero, List.set_cons_succ]
                refine wpAnyH_done (by kernel_rfl) ?_ _
                unfold CutQ; first | exact ⟨wd.heap.size, wd.heap.size + 1, wd.heap.size + 2, by simp only [Act.put, List.getElem_toArray, List.getElem_cons_succ, List.getElem_cons_zero, List.setIfInBounds_toArray, List.set_cons_zero, List.set_cons_succ], ((hS0.alloc _).alloc _).alloc _, (three_new wd pf pt f t qf qt 52).1, (three_new wd pf pt f t qf qt 52).2.1, (three_new wd pf pt f t qf qt 52).2.2⟩ | exact ⟨wd.heap.size, wd.heap.size + 2, wd.heap.size + 1, by simp only [Act.put, List.getElem_toArray, List.getElem_cons_succ, List.getElem_cons_zero, List.setIfInBounds_toArray, List.set_cons_zero, List.set_cons_succ], ((hS0.alloc _).alloc _).alloc _, (three_new wd pf pt qf qt f t 52).1, (three_new wd pf pt qf qt f t 52).2.2, (three_new wd pf pt qf qt f t 52).2.1⟩ | exact ⟨wd.heap.size + 1, wd.heap.size, wd.heap.size + 2, by simp only [Act.put, List.getElem_toArray, List.getElem_cons_succ, List.getElem_cons_zero, List.setIfInBounds_toArray, List.set_cons_zero, List.set_cons_succ], ((hS0.alloc _).alloc _).alloc _, (three_new wd f t pf pt qf qt 52).2.1, (three_new wd f t pf pt qf qt 52).1, (three_new wd f t pf pt qf qt 52).2.2⟩ | exact ⟨wd.heap.size + 2, wd.heap.size, wd.heap.size + 1, by simp only [Act.put, List.getElem_toArray, List.getElem_cons_succ, List.getElem_cons_zero, List.setIfInBounds_toArray, List.set_cons_zero, List.set_cons_succ], ((hS0.alloc _).alloc _).alloc _, (three_new wd f t qf qt pf pt 52).2.2, (three_new wd f t qf qt pf pt 52).1, (three_new wd f t qf qt pf pt 52).2.1⟩ | exact ⟨wd.heap.size + 1, wd.heap.size + 2, wd.heap.size, by simp only [Act.put, List.getElem_toArray, List.getElem_cons_succ, List.getElem_cons_zero, List.setIfInBounds_toArray, List.set_cons_zero, List.set_cons_succ], ((hS0.alloc _).alloc _).alloc _, (three_new wd qf qt pf pt f t 52).2.1, (three_new wd qf qt pf pt f t 52).2.2, (three_new wd qf qt pf pt f t 52).1⟩ | exact ⟨wd.heap.size + 2, wd.heap.size + 1, wd.heap.size, by simp only [Act.put, List.getElem_toArray, List.getElem_cons_succ, List.getElem_cons_zero, List.setIfInBounds_toArray, List.set_cons_zero, List.set_cons_succ], ((hS0.alloc _).alloc _).alloc _, (three_new wd qf qt f t pf pt 52).2.2, (three_new wd qf qt f t pf pt 52).2.1, (three_new wd qf qt f t pf pt 52).1⟩
            · go_simp
              refine hK'.out _ _ ?hs (fun _ => ?_)
              case hs => first | exact (hS0.alloc _) | exact ((hS0.alloc _).alloc _) | exact (((hS0.alloc _).alloc _).alloc _)
              clear hK' K'
              try simp only [Act.put, List.getElem_toArray, List.getElem_cons_succ, List.getElem_cons_zero, List.setIfInBounds_toArray, List.set_cons_zero, List.set_cons_succ]
              refine wpAnyH_ready (rs := [14, 16]) (by kernel_rfl) (by simp) (AllReadyH.cons rfl (fun K' hK' => ?_) (AllReadyH.cons rfl (fun K' hK' => ?_) AllReadyH.nil))
              · go_simp
                refine hK'.out _ _ ?hs (fun _ => ?_)
                case hs => first | exact (hS0.alloc _) | exact ((hS0.alloc _).alloc _) | exact (((hS0.alloc _).alloc _).alloc _)
                clear hK' K'
                try simp only [Act.put, List.getElem_toArray, List.getElem_cons_succ, List.getElem_cons_zero, List.setIfInBounds_toArray, List.set_cons_zero, List.set_cons_succ]
                refine wpAnyH_ready (rs := [16]) (by kernel_rfl) (by simp) (AllReadyH.cons rfl (fun K' hK' => ?_) AllReadyH.nil)
                go_simp
                refine hK'.out _ _ ?hs (fun _ => ?_)
                case hs => first | exact (hS0.alloc _) | exact ((hS0.alloc _).alloc _) | exact (((hS0.alloc _).alloc _).alloc _)
                clear hK' K'
                try simp only [Act.put, List.getElem_toArray, List.getElem_cons_succ, List.getElem_cons_zero, List.setIfInBounds_toArray, List.set_cons_zero, List.set_cons_succ]
                refine wpAnyH_ready (rs := [17]) (by kernel_rfl) (by simp) (AllReadyH.cons rfl (fun K' hK' => ?_) AllReadyH.nil)
                go_simp
                refine hK'.out _ _ ?hs (fun _ => ?_)
                case hs => first | exact (hS0.alloc _) | exact ((hS0.alloc _).alloc _) | exact (((hS0.alloc _).alloc _).alloc _)
                clear hK' K'
                try simp only [Act.put, List.getElem_toArray, List.getElem_cons_succ, List.getElem_cons_zero, List.setIfInBounds_toArray, List.set_cons_zero, List.set_cons_succ]
                refine wpAnyH_ready (rs := [18]) (by kernel_rfl) (by simp) (AllReadyH.cons rfl (fun K' hK' => ?_) AllReadyH.nil)
                go_simp
                refine hK'.out _ _ ?hs (fun _ => ?_)
                case hs => first | exact (hS0.alloc _) | exact ((hS0.alloc _).alloc _) | exact (((hS0.alloc _).alloc _).alloc _)
                clear hK' K'
                try simp only [Act.put, List.getElem_toArray, List.getElem_cons_succ, List.getElem_cons_zero, List.setIfInBounds_toArray, List.set_cons_zero, List.set_cons_succ]
                refine wpAnyH_ready (rs := [19]) (by kernel_rfl) (by simp) (AllReadyH.cons rfl (fun K' hK' => ?_) AllReadyH.nil)
                go_simp
                refine hK'.out _ _ ?hs (fun _ => ?_)
                case hs => first | exact (hS0.alloc _) | exact ((hS0.alloc _).alloc _) | exact (((hS0.alloc _).alloc _).alloc _)
                clear hK' K'
                try simp only [Act.put, List.getElem_toArray, List.getElem_cons_succ, List.getElem_cons_zero, List.setIfInBounds_toArray, List.set_cons_zero, List.set_cons_succ]
                refine wpAnyH_done (by kernel_rfl) ?_ _
                unfold CutQ; first | exact ⟨wd.heap.size, wd.heap.size + 1, wd.heap.size + 2, by simp only [Act.put, List.getElem_toArray, List.getElem_cons_succ, List.getElem_cons_zero, List.setIfInBounds_toArray, List.set_cons_zero, List.set_cons_succ], ((hS0.alloc _).alloc _).alloc _, (three_new wd pf pt f t qf qt 52).1, (three_new wd pf pt f t qf qt 52).2.1, (three_new wd pf pt f t qf qt 52).2.2⟩ | exact ⟨wd.heap.size, wd.heap.size + 2, wd.heap.size + 1, by simp only [Act.put, List.getElem_toArray, List.getElem_cons_succ, List.getElem_cons_zero, List.setIfInBounds_toArray, List.set_cons_zero, List.set_cons_succ], ((hS0.alloc _).alloc _).alloc _, (three_new wd pf pt qf qt f t 52).1, (three_new wd pf pt qf qt f t 52).2.2, (three_new wd pf pt qf qt f t 52).2.1⟩ | exact ⟨wd.heap.size + 1, wd.heap.size, wd.heap.size + 2, by simp only [Act.put, List.getElem_toArray, List.getElem_cons_succ, List.getElem_cons_zero, List.setIfInBounds_toArray, List.set_cons_zero, List.set_cons_succ], ((hS0.alloc _).alloc _).alloc _, (three_new wd f t pf pt qf qt 52).2.1, (three_new wd f t pf pt qf qt 52).1, (three_new wd f t pf pt qf qt 52).2.2⟩ | exact ⟨wd.heap.size + 2, wd.heap.size, wd.heap.size + 1, by simp only [Act.put, List.getElem_toArray, List.getElem_cons_succ, List.getElem_cons_zero, List.setIfInBounds_toArray, List.set_cons_zero, List.set_cons_succ], ((hS0.alloc _).alloc _).alloc _, (three_new wd f t qf qt pf pt 52).2.2, (three_new wd f t qf qt pf pt 52).1, (three_new wd f t qf qt pf pt 52).2.1⟩ | exact ⟨wd.heap.size + 1, wd.heap.size + 2, wd.heap.size, by simp only [Act.put, List.getElem_toArray, List.getElem_cons_succ, List.getElem_cons_zero, List.setIfInBounds_toArray, List.set_cons_zero, List.set_cons_succ], ((hS0.alloc _).alloc _).alloc _, (three_new wd qf qt pf pt f t 52).2.1, (three_new wd qf qt pf pt f t 52).2.2, (three_new wd qf qt pf pt f t 52).1⟩ | exact ⟨wd.heap.size + 2, wd.heap.size + 1, wd.heap.size, by simp only [Act.put, List.getElem_toArray, List.getElem_cons_succ, List.getElem_cons_zero, List.setIfInBounds_toArray, List.set_cons_zero, List.set_cons_succ], ((hS0.alloc _).alloc _).alloc _, (three_new wd qf qt f t pf pt 52).2.2, (three_new wd qf qt f t pf pt 52).2.1, (three_new wd qf qt f t pf pt 52).1⟩
              · go_simp
                refine hK'.out _ _ ?hs (fun _ => ?_)
                case hs => first | exact (hS0.alloc _) | exact ((hS0.alloc _).alloc _) | exact (((hS0.alloc _).alloc _).alloc _)
                clear hK' K'
                try simp only [Act.put, List.getElem_toArray, List.getElem_cons_succ, List.getElem_cons_zero, List.setIfInBounds_toArray, List.set_cons_zero, List.set_cons_succ]
                refine wpAnyH_ready (rs := [14]) (by kernel_rfl) (by simp) (AllReadyH.cons rfl (fun K' hK' => ?_) AllReadyH.nil)
                go_simp
                refine hK'.out _ _ ?hs (fun _ => ?_)
                case hs => first | exact (hS0.alloc _) | exact ((hS0.alloc _).alloc _) | exact (((hS0.alloc _).alloc _).alloc _)
                clear hK' K'
                try simp only [Act.put, List.getElem_toArray, List.getElem_cons_succ, List.getElem_cons_zero, List.setIfInBounds_toArray, List.set_cons_zero, List.set_cons_succ]
                refine wpAnyH_ready (rs := [17]) (by kernel_rfl) (by simp) (AllReadyH.cons rfl (fun K' hK' => ?_) AllReadyH.nil)
                go_simp
                refine hK'.out _ _ ?hs (fun _ => ?_)
                case hs => first | exact (hS0.alloc _) | exact ((hS0.alloc _).alloc _) | exact (((hS0.alloc _).alloc _).alloc _)
                clear hK' K'
                try simp only [Act.put, List.getElem_toArray, List.getElem_cons_succ, List.getElem_cons_zero, List.setIfInBounds_toArray, List.set_cons_zero, List.set_cons_succ]
                refine wpAnyH_ready (rs := [18]) (by kernel_rfl) (by simp) (AllReadyH.cons rfl (fun K' hK' => ?_) AllReadyH.nil)
                go_simp
                refine hK'.out _ _ ?hs (fun _ => ?_)
                case hs => first | exact (hS0.alloc _) | exact ((hS0.alloc _).alloc _) | exact (((hS0.alloc _).alloc _).alloc _)
                clear hK' K'
                try simp only [Act.put, List.getElem_toArray, List.getElem_cons_succ, List.getElem_cons_zero, List.setIfInBounds_toArray, List.set_cons_zero, List.set_cons_succ]
                refine wpAnyH_ready (rs := [19]) (by kernel_rfl) (by simp) (AllReadyH.cons rfl (fun K' hK' => ?_) AllReadyH.nil)
                go_simp
                refine hK'.out _ _ ?hs (fun _ => ?_)
                case hs => first | exact (hS0.alloc _) | exact ((hS0.alloc _).alloc _) | exact (((hS0.alloc _).alloc _).alloc _)
                clear hK' K'
                try simp only [Act.put, List.getElem_toArray, List.getElem_cons_succ, List.getElem_cons_zero, List.setIfInBounds_toArray, List.set_cons_zero, List.set_cons_succ]
                refine wpAnyH_done (by kernel_rfl) ?_ _
                unfold CutQ; first | exact ⟨wd.heap.size, wd.heap.size + 1, wd.heap.size + 2, by simp only [Act.put, List.getElem_toArray, List.getElem_cons_succ, List.getElem_cons_zero, List.setIfInBounds_toArray, List.set_cons_zero, List.set_cons_succ], ((hS0.alloc _).alloc _).alloc _, (three_new wd pf pt f t qf qt 52).1, (three_new wd pf pt f t qf qt 52).2.1, (three_new wd pf pt f t qf qt 52).2.2⟩ | exact ⟨wd.heap.size, wd.heap.size + 2, wd.heap.size + 1, by simp only [Act.put, List.getElem_toArray, List.getElem_cons_succ, List.getElem_cons_zero, List.setIfInBounds_toArray, List.set_cons_zero, List.set_cons_succ], ((hS0.alloc _).alloc _).alloc _, (three_new wd pf pt qf qt f t 52).1, (three_new wd pf pt qf qt f t 52).2.2, (three_new wd pf pt qf qt f t 52).2.1⟩ | exact ⟨wd.heap.size + 1, wd.heap.size, wd.heap.size + 2, by simp only [Act.put, List.getElem_toArray, List.getElem_cons_succ, List.getElem_cons_zero, List.setIfInBounds_toArray, List.set_cons_zero, List.set_cons_succ], ((hS0.alloc _).alloc _).alloc _, (three_new wd f t pf pt qf qt 52).2.1, (three_new wd f t pf pt qf qt 52).1, (three_new wd f t pf pt qf qt 52).2.2⟩ | exact ⟨wd.heap.size + 2, wd.heap.size, wd.heap.size + 1, by simp only [Act.put, List.getElem_toArray, List.getElem_cons_succ, List.getElem_cons_zero, List.setIfInBounds_toArray, List.set_cons_zero, List.set_cons_succ], ((hS0.alloc _).alloc _).alloc _, (three_new wd f t qf qt pf pt 52).2.2, (three_new wd f t qf qt pf pt 52).1, (three_new wd f t qf qt pf pt 52).2.1⟩ | exact ⟨wd.heap.size + 1, wd.heap.size + 2, wd.heap.size, by simp only [Act.put, List.getElem_toArray, List.getElem_cons_succ, List.getElem_cons_zero, List.setIfInBounds_toArray, List.set_cons_zero, List.set_cons_succ], ((hS0.alloc _).alloc _).alloc _, (three_new wd qf qt pf pt f t 52).2.1, (three_new wd qf qt pf pt f t 52).2.2, (three_new wd qf qt pf pt f t 52).1⟩ | exact ⟨wd.heap.size + 2, wd.heap.size + 1, wd.heap.size, by simp only [Act.put, List.getElem_toArray, List.getElem_cons_succ, List.getElem_cons_zero, List.setIfInBounds_toArray, List.set_cons_zero, List.set_cons_succ], ((hS0.alloc _).alloc _).alloc _, (three_new wd qf qt f t pf pt 52).2.2, (three_new wd qf qt f t pf pt 52).2.1, (three_new wd qf qt f t pf pt 52).1⟩
            · go_simp
              refine hK'.out _ _ ?hs (fun _ => ?_)
              case hs => first | exact (hS0.alloc _) | exact ((hS0.alloc _).alloc _) | exact (((hS0.alloc _).alloc _).alloc _)
              clear hK' K'
              try simp only [Act.put, List.getElem_toArray, List.getElem_cons_succ, List.getElem_cons_zero, List.setIfInBounds_toArray, List.set_cons_zero, List.set_cons_succ]
              refine wpAnyH_ready (rs := [14, 15]) (by kernel_rfl) (by simp) (AllReadyH.cons rfl (fun K' hK' => ?_) (AllReadyH.cons rfl (fun K' hK' => ?_) AllReadyH.nil))
              · go_simp
                refine hK'.out _ _ ?hs (fun _ => ?_)
                case hs => first | exact (hS0.alloc _) | exact ((hS0.alloc _).alloc _) | exact (((hS0.alloc _).alloc _).alloc _)
                clear hK' K'
                try simp only [Act.put, List.getElem_toArray, List.getElem_cons_succ, List.getElem_cons_zero, List.setIfInBounds_toArray, List.set_cons_zero, List.set_cons_succ]
                refine wpAnyH_ready (rs := [15]) (by kernel_rfl) (by simp) (AllReadyH.cons rfl (fun K' hK' => ?_) AllReadyH.nil)
                go_simp
                refine hK'.out _ _ ?hs (fun _ => ?_)
                case hs => first | exact (hS0.alloc _) | exact ((hS0.alloc _).alloc _) | exact (((hS0.alloc _).alloc _).alloc _)
                clear hK' K'
                try simp only [Act.put, List.getElem_toArray, List.getElem_cons_succ, List.getElem_cons_zero, List.setIfInBounds_toArray, List.set_cons_zero, List.set_cons_succ]
                refine wpAnyH_ready (rs := [17]) (by kernel_rfl) (by simp) (AllReadyH.cons rfl (fun K' hK' => ?_) AllReadyH.nil)
                go_simp
                refine hK'.out _ _ ?hs (fun _ => ?_)
                case hs => first | exact (hS0.alloc _) | exact ((hS0.alloc _).alloc _) | exact (((hS0.alloc _).alloc _).alloc _)
                clear hK' K'
                try simp only [Act.put, List.getElem_toArray, List.getElem_cons_succ, List.getElem_cons_zero, List.setIfInBounds_toArray, List.set_cons_zero, List.set_cons_succ]
                refine wpAnyH_ready (rs := [18]) (by kernel_rfl) (by simp) (AllReadyH.cons rfl (fun K' hK' => ?_) AllReadyH.nil)
                go_simp
                refine hK'.out _ _ ?hs (fun _ => ?_)
                case hs => first | exact (hS0.alloc _) | exact ((hS0.alloc _).alloc _) | exact (((hS0.alloc _).alloc _).alloc _)
                clear hK' K'
                try simp only [Act.put, List.getElem_toArray, List.getElem_cons_succ, List.getElem_cons_zero, List.setIfInBounds_toArray, List.set_cons_zero, List.set_cons_succ]
                refine wpAnyH_ready (rs := [19]) (by kernel_rfl) (by simp) (AllReadyH.cons rfl (fun K' hK' => ?_) AllReadyH.nil)
                go_simp
                refine hK'.out _ _ ?hs (fun _ => ?_)
                case hs => first | exact (hS0.alloc _) | exact ((hS0.alloc _).alloc _) | exact (((hS0.alloc _).alloc _).alloc _)
                clear hK' K'
                try simp only [Act.put, List.getElem_toArray, List.getElem_cons_succ, List.getElem_cons_zero, List.setIfInBounds_toArray, List.set_cons_zero, List.set_cons_succ]
                refine wpAnyH_done (by kernel_rfl) ?_ _
                unfold CutQ; first | exact ⟨wd.heap.size, wd.heap.size + 1, wd.heap.size + 2, by simp only [Act.put, List.getElem_toArray, List.getElem_cons_succ, List.getElem_cons_zero, List.setIfInBounds_toArray, List.set_cons_zero, List.set_cons_succ], ((hS0.alloc _).alloc _).alloc _, (three_new wd pf pt f t qf qt 52).1, (three_new wd pf pt f t qf qt 52).2.1, (three_new wd pf pt f t qf qt 52).2.2⟩ | exact ⟨wd.heap.size, wd.heap.size + 2, wd.heap.size + 1, by simp only [Act.put, List.getElem_toArray, List.getElem_cons_succ, List.getElem_cons_zero, List.setIfInBounds_toArray, List.set_cons_zero, List.set_cons_succ], ((hS0.alloc _).alloc _).alloc _, (three_new wd pf pt qf qt f t 52).1, (three_new wd pf pt qf qt f t 52).2.2, (three_new wd pf pt qf qt f t 52).2.1⟩ | exact ⟨wd.heap.size + 1, wd.heap.size, wd.heap.size + 2, by simp only [Act.put, List.getElem_toArray, List.getElem_cons_succ, List.getElem_cons_zero, List.setIfInBounds_toArray, List.set_cons_zero, List.set_cons_succ], ((hS0.alloc _).alloc _).alloc _, (three_new wd f t pf pt qf qt 52).2.1, (three_new wd f t pf pt qf qt 52).1, (three_new wd f t pf pt qf qt 52).2.2⟩ | exact ⟨wd.heap.size + 2, wd.heap.size, wd.heap.size + 1, by simp only [Act.put, List.getElem_toArray, List.getElem_cons_succ, List.getElem_cons_zero, List.setIfInBounds_toArray, List.set_cons_zero, List.set_cons_succ], ((hS0.alloc _).alloc _).alloc _, (three_new wd f t qf qt pf pt 52).2.2, (three_new wd f t qf qt pf pt 52).1, (three_new wd f t qf qt pf pt 52).2.1⟩ | exact ⟨wd.heap.size + 1, wd.heap.size + 2, wd.heap.size, by simp only [Act.put, List.getElem_toArray, List.getElem_cons_succ, List.getElem_cons_zero, List.setIfInBounds_toArray, List.set_cons_zero, List.set_cons_succ], ((hS0.alloc _).alloc _).alloc _, (three_new wd qf qt pf pt f t 52).2.1, (three_new wd qf qt pf pt f t 52).2.2, (three_new wd qf qt pf pt f t 52).1⟩ | exact ⟨wd.heap.size + 2, wd.heap.size + 1, wd.heap.size, by simp only [Act.put, List.getElem_toArray, List.getElem_cons_succ, List.getElem_cons_zero, List.setIfInBounds_toArray, List.set_cons_zero, List.set_cons_succ], ((hS0.alloc _).alloc _).alloc _, (three_new wd qf qt f t pf pt 52).2.2, (three_new wd qf qt f t pf pt 52).2.1, (three_new wd qf qt f t pf pt 52).1⟩
              · go_simp
                refine hK'.out _ _ ?hs (fun _ => ?_)
                case hs => first | exact (hS0.alloc _) | exact ((hS0.alloc _).alloc _) | exact (((hS0.alloc _).alloc _).alloc _)
                clear hK' K'
                try simp only [Act.put, List.getElem_toArray, List.getElem_cons_succ, List.getElem_cons_zero, List.setIfInBounds_toArray, List.set_cons_zero, List.set_cons_succ]
                refine wpAnyH_ready (rs := [14]) (by kernel_rfl) (by simp) (AllReadyH.cons rfl (fun K' hK' => ?_) AllReadyH.nil)
                go_simp
                refine hK'.out _ _ ?hs (fun _ => ?_)
                case hs => first | exact (hS0.alloc _) | exact ((hS0.alloc _).alloc _) | exact (((hS0.alloc _).alloc _).alloc _)
                clear hK' K'
                try simp only [Act.put, List.getElem_toArray, List.getElem_cons_succ, List.getElem_cons_zero, List.setIfInBounds_toArray, List.set_cons_zero, List.set_cons_succ]
                refine wpAnyH_ready (rs := [17]) (by kernel_rfl) (by simp) (AllReadyH.cons rfl (fun K' hK' => ?_) AllReadyH.nil)
                go_simp
                refine hK'.out _ _ ?hs (fun _ => ?_)
                case hs => first | exact (hS0.alloc _) | exact ((hS0.alloc _).alloc _) | exact (((hS0.alloc _).alloc _).alloc _)
                clear hK' K'
                try simp only [Act.put, List.getElem_toArray, List.getElem_cons_succ, List.getElem_cons_zero, List.setIfInBounds_toArray, List.set_cons_zero, List.set_cons_succ]
                refine wpAnyH_ready (rs := [18]) (by kernel_rfl) (by simp) (AllReadyH.cons rfl (fun K' hK' => ?_) AllReadyH.nil)
                go_simp
                refine hK'.out _ _ ?hs (fun _ => ?_)
                case hs => first | exact (hS0.alloc _) | exact ((hS0.alloc _).alloc _) | exact (((hS0.alloc _).alloc _).alloc _)
                clear hK' K'
                try simp only [Act.put, List.getElem_toArray, List.getElem_cons_succ, List.getElem_cons_zero, List.setIfInBounds_toArray, List.set_cons_zero, List.set_cons_succ]
                refine wpAnyH_ready (rs := [19]) (by kernel_rfl) (by simp) (AllReadyH.cons rfl (fun K' hK' => ?_) AllReadyH.nil)
                go_simp
                refine hK'.out _ _ ?hs (fun _ => ?_)
                case hs => first | exact (hS0.alloc _) | exact ((hS0.alloc _).alloc _) | exact (((hS0.alloc _).alloc _).alloc _)
                clear hK' K'
                try simp only [Act.put, List.getElem_toArray, List.getElem_cons_succ, List.getElem_cons_zero, List.setIfInBounds_toArray, List.set_cons_zero, List.set_cons_succ]
                refine wpAnyH_done (by kernel_rfl) ?_ _
                unfold CutQ; first | exact ⟨wd.heap.size, wd.heap.size + 1, wd.heap.size + 2, by simp only [Act.put, List.getElem_toArray, List.getElem_cons_succ, List.getElem_cons_zero, List.setIfInBounds_toArray, List.set_cons_zero, List.set_cons_succ], ((hS0.alloc _).alloc _).alloc _, (three_new wd pf pt f t qf qt 52).1, (three_new wd pf pt f t qf qt 52).2.1, (three_new wd pf pt f t qf qt 52).2.2⟩ | exact ⟨wd.heap.size, wd.heap.size + 2, wd.heap.size + 1, by simp only [Act.put, List.getElem_toArray, List.getElem_cons_succ, List.getElem_cons_zero, List.setIfInBounds_toArray, List.set_cons_zero, List.set_cons_succ], ((hS0.alloc _).alloc _).alloc _, (three_new wd pf pt qf qt f t 52).1, (three_new wd pf pt qf qt f t 52).2.2, (three_new wd pf pt qf qt f t 52).2.1⟩ | exact ⟨wd.heap.size + 1, wd.heap.size, wd.heap.size + 2, by simp only [Act.put, List.getElem_toArray, List.getElem_cons_succ, List.getElem_cons_zero, List.setIfInBounds_toArray, List.set_cons_zero, List.set_cons_succ], ((hS0.alloc _).alloc _).alloc _, (three_new wd f t pf pt qf qt 52).2.1, (three_new wd f t pf pt qf qt 52).1, (three_new wd f t pf pt qf qt 52).2.2⟩ | exact ⟨wd.heap.size + 2, wd.heap.size, wd.heap.size + 1, by simp only [Act.put, List.getElem_toArray, List.getElem_cons_succ, List.getElem_cons_zero, List.setIfInBounds_toArray, List.set_cons_zero, List.set_cons_succ], ((hS0.alloc _).alloc _).alloc _, (three_new wd f t qf qt pf pt 52).2.2, (three_new wd f t qf qt pf pt 52).1, (three_new wd f t qf qt pf pt 52).2.1⟩ | exact ⟨wd.heap.size + 1, wd.heap.size + 2, wd.heap.size, by simp only [Act.put, List.getElem_toArray, List.getElem_cons_succ, List.getElem_cons_zero, List.setIfInBounds_toArray, List.set_cons_zero, List.set_cons_succ], ((hS0.alloc _).alloc _).alloc _, (three_new wd qf qt pf pt f t 52).2.1, (three_new wd qf qt pf pt f t 52).2.2, (three_new wd qf qt pf pt f t 52).1⟩ | exact ⟨wd.heap.size + 2, wd.heap.size + 1, wd.heap.size, by simp only [Act.put, List.getElem_toArray, List.getElem_cons_succ, List.getElem_cons_zero, List.setIfInBounds_toArray, List.set_cons_zero, List.set_cons_succ], ((hS0.alloc _).alloc _).alloc _, (three_new wd qf qt f t pf pt 52).2.2, (three_new wd qf qt f t pf pt 52).2.1, (three_new wd qf qt f t pf pt 52).1⟩
          · rintro a w3 ⟨x1, x2, x3, rfl, hg, h1, h2, h3⟩
            have HGX := Lib.hid hg
            obtain ⟨p0, p1⟩ := id h1
            obtain ⟨r0, r1⟩ := id h2
            obtain ⟨s0, s1⟩ := id h3
            replace d0 := cv_cell hg d0
            replace d1 := cv_cell hg d1
            clear hg h1 h2 h3 e0 e1 g0 g1
            try simp only [Act.put, List.getElem_toArray, List.getElem_cons_succ, List.getElem_cons_zero, List.setIfInBounds_toArray, List.set_cons_zero, List.set_cons_succ]
            obtain ⟨B, hB⟩ : ∃ B, ((t - pt) * (qf - pf) == (qt - pt) * (f - pf)) = B := ⟨_, rfl⟩
            rw [hB] at hka
            cases B
            · have HS := Lib.hid (HK.out hka)
              clear HK HD hka
              have HO2 := Lib.hid (HO.out.gr HGX.out)
              have HG3 := Lib.hid (Gr.trans HG.out HGX.out)
              go_wp2_with (at_builtin; refine push_c hi hz0 hz1 hz2 rfl _ _ rfl _ xs rfl HO2.out HG3.out f t w3.heap.size rfl rfl (by omega) ?_; rintro v5 w5 HO5 hg5; have HG5 := Lib.hid hg5; clear hg5)
              go_roundw
              case rel => exact ⟨q, rfl, hq', by rw [HS.out]; exact HO5, HG5⟩
              case measure => simp [intOf]; have := HQ.out; omega
            · have HS := Lib.hid (HD.out hka)
              have HG5 := Lib.hid (Gr.trans HG.out HGX.out)
              have HO5 := Lib.hid (HO.out.gr HGX.out)
              clear HK HD hka
              go_wp2
              go_roundw
              case rel => exact ⟨q, rfl, hq', by rw [HS.out]; exact HO5, HG5⟩
              case measure => simp [intOf]; have := HQ.out; omega
        · have hke : keepAt R j = true := by
            by_cases e0 : j = 0
            · subst e0; exact keepAt_first R
            · exact keepAt_last (by rw [HN.out]; omega)
          have HS := Lib.hid (HK.out hke)
          have hcase : j = 0 ∨ (0 < j ∧ j = m + 1) := by omega
          generalize tidyJ R j = xs at *
          generalize R[j] = x at *
          obtain ⟨f, t⟩ := x
          simp only at d0 d1 HS
          have HGX := Lib.hid (Gr.refl wr)
          clear l0 HK HD hke hin
          have HO2 := Lib.hid (HO.out.gr HGX.out)
          have HG3 := Lib.hid (Gr.trans HG.out HGX.out)
          rcases hcase with rfl | ⟨hj0, hjm⟩
          · simp only [Nat.zero_mul, Nat.add_zero] at d0 d1
            go_wp2_with (at_builtin; refine push_c hi hz0 hz1 hz2 rfl _ _ rfl _ xs rfl HO2.out HG3.out f t wr.heap.size rfl rfl (by omega) ?_; rintro v5 w5 HO5 hg5; have HG5 := Lib.hid hg5; clear hg5)
            go_roundw
            case rel => exact ⟨0 + 1, by go_num, by omega, by rw [HS.out]; exact HO5, HG5⟩
            case measure => (simp [intOf]; try omega)
          · have t1 : decide (0 < j) = true := decide_eq_true (by omega)
            have t2 : decide ((j : Int) < (m : Int) + 1) = false := decide_eq_false (by omega)
            have t4 : decide (j < m + 1) = false := decide_eq_false (by omega)
            have t5 : ¬ (j : Int) < (m : Int) + 1 := by omega
            have HJM := Lib.hid hjm
            clear hjm
            go_wp2_with (at_builtin; refine push_c hi hz0 hz1 hz2 rfl _ _ rfl _ xs rfl HO2.out HG3.out f t wr.heap.size rfl rfl (by omega) ?_; rintro v5 w5 HO5 hg5; have HG5 := Lib.hid hg5; clear hg5)
            go_roundw
            case rel => exact ⟨j + 1, by go_num, by omega, by rw [HS.out]; exact HO5, HG5⟩
            case measure => (simp [intOf]; try omega)
      · obtain rfl : j = m + 2 := by omega
        have ho := HO.out
        rw [HALL.out] at ho
        have HO3 := Lib.hid ho
        clear ho HO
        go_wp2
        go_ret2
        exact ⟨_, rfl, HO3.out, HG.out⟩
  · rw [if_pos h]
    generalize cvC R = K at *
    generalize R.length = n at *
    have hk : (K == 0) = false := by rw [beq_eq_false_iff_ne]; exact h
    clear hR hJ
    go_enter Tryz.func30, Tryz.ntmps30
    go_wp2_with fail
    refine C.out.mono ?_; rintro e w1 ⟨rfl, hg⟩
    have HG1 := Lib.hid hg
    clear hg
    go_wp2
    go_ret2
    exact ⟨_, rfl, OwnC.nil _ _, HG1.out⟩
end Go.Proofs.YtlbnibicehpobaaGreatDoor
