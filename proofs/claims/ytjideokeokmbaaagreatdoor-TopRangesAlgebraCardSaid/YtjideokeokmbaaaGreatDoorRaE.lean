/- Sets of channels: from the members to the ranges. -/
import Derived.Test.YtjideokeokmbaaaGreatDoorRaD
set_option linter.unusedVariables false
set_option linter.unusedSimpArgs false
namespace Go.Proofs.YtjideokeokmbaaaGreatDoor.Z
open Go
/-- the last range goes on to c -/
def bumpL (l : List (Int × Int)) (c : Int) : List (Int × Int) := l.dropLast ++ [((l.getLastD (0, 0)).1, c)]
def setStep (g : Nat → Bool) (l : List (Int × Int)) (k : Nat) : List (Int × Int) :=
  if g k = true then (if 1 ≤ k ∧ g (k - 1) = true then bumpL l k else l ++ [((k : Int), (k : Int))]) else l
/-- the ranges of the channels that are in, below k -/
def setS (g : Nat → Bool) : Nat → List (Int × Int)
  | 0 => []
  | k + 1 => setStep g (setS g k) k
theorem bumpL_ne (l : List (Int × Int)) (c : Int) : bumpL l c ≠ [] := by simp [bumpL]
theorem setS_ne (g : Nat → Bool) (k : Nat) (h : g k = true) : setS g (k + 1) ≠ [] := by
  show setStep g (setS g k) k ≠ []
  unfold setStep
  rw [if_pos h]
  split
  · exact bumpL_ne _ _
  · simp
theorem bumpL_len {l : List (Int × Int)} {c : Int} (h : l ≠ []) : (bumpL l c).length = l.length := by
  have : 0 < l.length := List.length_pos_iff.2 h
  simp [bumpL]; omega
theorem setS_len (g : Nat → Bool) (k : Nat) : (setS g k).length ≤ k := by
  induction k with
  | zero => exact Nat.le_refl _
  | succ k ih =>
    show (setStep g (setS g k) k).length ≤ k + 1
    unfold setStep
    split
    · split
      · rename_i h
        obtain ⟨h1, h2⟩ := h
        obtain ⟨j, rfl⟩ : ∃ j, k = j + 1 := ⟨k - 1, by omega⟩
        rw [bumpL_len (setS_ne g j h2)]; omega
      · rw [List.length_append]; simp; omega
    · omega
/-- ranges as a row of cells -/
def rv (l : List (Int × Int)) : List Value := l.flatMap fun r => [.int .i64 r.1, .int .i64 r.2]
theorem rv_snoc (l : List (Int × Int)) (f t : Int) : rv (l ++ [(f, t)]) = rv l ++ [.int .i64 f, .int .i64 t] := by simp [rv]
theorem rv_len (l : List (Int × Int)) : (rv l).length = l.length * 2 := by
  induction l with
  | nil => rfl
  | cons r l ih => unfold rv at ih ⊢; rw [List.flatMap_cons, List.length_append, ih]; simp; omega
theorem rv_get (l : List (Int × Int)) (k : Nat) (hk : k < l.length) : (rv l)[k * 2]? = some (.int .i64 l[k].1) ∧ (rv l)[k * 2 + 1]? = some (.int .i64 l[k].2) := by
  induction l generalizing k with
  | nil => simp at hk
  | cons r l ih =>
    have e : rv (r :: l) = .int .i64 r.1 :: .int .i64 r.2 :: rv l := rfl
    rw [e]
    cases k with
    | zero => simp
    | succ k =>
      have := ih k (by simpa using hk)
      rw [show (k + 1) * 2 = k * 2 + 1 + 1 by omega]
      simpa using this
theorem rv_bump (i : List (Int × Int)) (r : Int × Int) (c : Int) : rv (bumpL (i ++ [r]) c) = (rv (i ++ [r])).set (i.length * 2 + 1) (.int .i64 c) := by
  unfold bumpL
  rw [List.dropLast_concat, List.getLastD_concat, rv_snoc, rv_snoc, List.set_append_right _ _ (by rw [rv_len]; omega), rv_len, show i.length * 2 + 1 - i.length * 2 = 1 by omega]
  rfl
end Go.Proofs.YtjideokeokmbaaaGreatDoor.Z
namespace Go.Proofs.YtjideokeokmbaaaGreatDoor
open Go.RowKit Go.Shelf
open Z
theorem Tryz.infoRange : (Tryz.prog.info? 37).map (fun i => (i.zero, i.size, i.bytes)) = some (some (.agg #[.int .i64 0, .int .i64 0]), 2, 16) := by kernel_rfl
def OwnR (B : Nat) (w : World) (v : Value) (l : List (Int × Int)) : Prop := w.ownsRow B 37 2 v l.length (rv l)
theorem OwnR.gr {B : Nat} {w w' : World} {v : Value} {l : List (Int × Int)} (h : OwnR B w v l) (hg : Gr w w') : OwnR B w' v l := World.ownsRow.kept h (⟨hg.os, hg.tape, hg.output, hg.size, fun i hi _ => hg.block i hi⟩ : w.grownBy w' none) (by cases hv : v.ownBlock with | none => exact .inl rfl | some k => exact .inr (by simp))
theorem OwnR.nil (B : Nat) (w : World) : OwnR B w (.slice none 0 0) [] := World.ownsRow_nil _ _ _ _
theorem OwnR.shape {B : Nat} {w : World} {v : Value} {l : List (Int × Int)} (h : OwnR B w v l) : ∃ a cap, v = .slice a l.length cap ∧ RngAt w a l ∧ (a = none → cap = 0) ∧ l.length ≤ cap ∧ cap ≤ maxLen := by
  rcases id h.2 with ⟨rfl, h0⟩ | ⟨g, cap, cur, rfl, _, _, h3, h4, _⟩
  · have : l = [] := List.eq_nil_of_length_eq_zero h0
    subst this
    exact ⟨none, 0, rfl, .inl ⟨rfl, rfl⟩, fun _ => rfl, Nat.le_refl _, Nat.zero_le _⟩
  · refine ⟨_, cap, rfl, .inr ⟨g, 0, rfl, fun k hk => ?_⟩, (fun e => by cases e), h3, h4⟩
    obtain ⟨h0, h1⟩ := rv_get l k hk
    have c : ∀ j u, (rv l)[j]? = some u → w.cell? ⟨g, 0 + j, none⟩ = some u := fun j u hj => by
      have := World.ownsRow.cells h (g := g) rfl j u hj
      rwa [WideShapes.add_plain] at this
    exact ⟨c _ _ h0, c _ _ h1⟩
theorem rg_one {f t : Int} : ∀ u ∈ ([Value.int .i64 f, .int .i64 t] : List Value), u.oneCell' = true := fun u hu => by
  simp only [List.mem_cons, List.not_mem_nil, or_false] at hu
  rcases hu with rfl | rfl <;> rfl
theorem push_r {i : TypeInfo} (hi : Tryz.prog.info? 37 = some i) (hz0 : i.zero = some (.agg #[.int .i64 0, .int .i64 0])) (hz1 : i.size = 2) (hz2 : i.bytes = 16)
    {ops : Array Oper} {rest : List Oper} {o : Oper} {a : Act} {Q : Exit → Act → World → Prop} {w0 w : World} (hgd : o.guard = none) (s x : Operand)
    (ho : o.op = .call { callee := .builtin .append, args := #[s, x], argTypes := #[22, 22] }) (v : Value) (xs : List (Int × Int)) (hs : a.eval s = v) (hown : OwnR w0.heap.size w v xs) (hg : Gr w0 w)
    (f t : Int) (N : Nat) (hN : N = w.heap.size) (hx : a.eval x = .slice (some ⟨N, 0, none⟩) 1 1) (hlen : xs.length + 1 ≤ 1000000)
    (h : ∀ v' w', Hid (OwnR w0.heap.size w' v' (xs ++ [(f, t)])) → Gr w0 w' → wpList Tryz.prog ops Q rest (a.put o.dst v') w') :
    wpList Tryz.prog ops Q (o :: rest) a (w.alloc (.cells #[.int .i64 f, .int .i64 t] 37)) := by
  have hgs := hg.size
  subst hN
  refine wpList_append_own _ hgd s x _ ho w0.heap.size 37 i (.agg #[.int .i64 0, .int .i64 0]) 2 16 Tryz.underlying22 hi hz0 hz1 hz2 rfl (by decide) v xs.length (rv xs) hs (World.ownsRow.alloc hown _) ⟨w.heap.size, 0, none⟩ 1 1 [.int .i64 f, .int .i64 t] hx rfl
    (fun j u hj => ?_) rg_one (by unfold maxLen; omega) (by omega) (by simp; omega) (fun v' w' hown' hgrow _ => h v' w' ?_ (Below.grown (hg.alloc _) hgrow (by simp; omega) (fun k hk => (World.ownsRow.lt hown k hk).1)))
  · rw [WideShapes.add_plain]
    match j, hj with
    | 0, hj => simp only [List.getElem?_cons_zero, Option.some.injEq] at hj; subst hj; rw [World.cell?_alloc_at _ _ _ _ rfl]; rfl
    | 1, hj => simp only [List.getElem?_cons_succ, List.getElem?_cons_zero, Option.some.injEq] at hj; subst hj; rw [World.cell?_alloc_at _ _ _ _ rfl]; rfl
    | j + 2, hj => simp at hj
  · show World.ownsRow _ _ _ _ _ _ _
    rw [rv_snoc, List.length_append]; exact hown'
/-- the last range of a row goes on: the store into it -/
theorem OwnR.bump {w0 w : World} {v : Value} {i : List (Int × Int)} {r : Int × Int} (h : OwnR w0.heap.size w v (i ++ [r])) (hg : Gr w0 w) (c : Int) :
    ∃ b cap, v = .slice (some ⟨b, 0, none⟩) (i.length + 1) cap ∧ w.cell? ⟨b, i.length * 2 + 1, none⟩ = some (.int .i64 r.2) ∧ w.frozen? ⟨b, i.length * 2 + 1, none⟩ = false ∧
      OwnR w0.heap.size (w.setCell ⟨b, i.length * 2 + 1, none⟩ (.int .i64 c)) v (bumpL (i ++ [r]) c) ∧ Gr w0 (w.setCell ⟨b, i.length * 2 + 1, none⟩ (.int .i64 c)) ∧ w0.heap.size ≤ b := by
  rcases id h.2 with ⟨rfl, h0⟩ | ⟨b, cap, cur, rfl, _, _, h3, h4, _⟩
  · simp at h0
  · have hb : w0.heap.size ≤ b := (World.ownsRow.lt h b rfl).1
    have hl : (i ++ [r]).length = i.length + 1 := by simp
    have hc := World.ownsRow.cells h (g := b) rfl (i.length * 2 + 1) _ (rv_get (i ++ [r]) i.length (by simp)).2
    rw [WideShapes.add_plain, Nat.zero_add] at hc
    have hst := World.ownsRow.stored h (i.length * 2 + 1) (.int .i64 c)
    refine ⟨b, cap, by rw [hl], by simpa using hc, World.ownsRow.frozenAt h _, ?_, Below.grown hg hst.2 hg.size (fun k e => by cases e; exact hb), hb⟩
    unfold OwnR
    rw [rv_bump, bumpL_len (by simp)]
    exact hst.1
set_option maxRecDepth 100000 in
set_option maxHeartbeats 4000000 in
theorem ra_set (mb : Nat) (g : Nat → Bool) (w : World) (hm : MemAt w mb g) (h0 : g 0 = false) :
    Calls Tryz.prog 30 #[.pointer (some ⟨mb, 0, none⟩)] w fun e w' => ∃ v, e = .returned v ∧ OwnR w.heap.size w' v (setS g 1000) ∧ Gr w w' := by
  obtain ⟨i0, hi, hz0, hz1, hz2⟩ := info_parts Tryz.infoRange
  have HM := Lib.hid hm
  have HG0 := Lib.hid h0
  clear hm h0
  go_enter Tryz.func30, Tryz.ntmps30
  go_wp2
  go_loopw [3, 7] (fun ow i wr => ∃ k : Nat, i = .int .i64 k ∧ k ≤ 1000 ∧ Hid (OwnR w.heap.size wr ow (setS g k)) ∧ Hid (Gr w wr)) (fun _ i _ => 1000 - (intOf i).toNat)
  case atStart => exact ⟨0, rfl, by omega, OwnR.nil _ _, Gr.refl w⟩
  case round =>
    obtain ⟨k, rfl, hk, HO, HG⟩ := hrel
    by_cases hlt : k < 1000
    · have m0 := cell_gr HG.out (HM.out.at k hlt).1
      cases hgk : g k
      · rw [hgk] at m0
        have HO2 : Hid (OwnR w.heap.size wr u3 (setS g (k + 1))) := Lib.hid (by show OwnR _ _ _ (setStep g (setS g k) k); unfold setStep; rw [hgk]; exact HO.out)
        clear HO hgk
        go_wp2_with fail
        go_quiet (fail)
        rename_i nq
        have HO3 := Lib.hid (HO2.out.gr (below_drewN (Gr.refl wr) nq))
        have HG3 := Lib.hid (below_drewN HG.out nq)
        clear HO2 HG m0
        go_wp2
        go_roundw
        case rel => exact ⟨k + 1, by go_num, by omega, HO3, HG3⟩
        case measure => simp [intOf]; omega
      · rw [hgk] at m0
        obtain ⟨j, rfl⟩ : ∃ j, k = j + 1 := by
          cases k with
          | zero => rw [HG0.out] at hgk; cases hgk
          | succ j => exact ⟨j, rfl⟩
        have m1 := cell_gr HG.out (HM.out.at j (by omega)).1
        have hkc : ((j + 1 : Nat) : Int) = (j : Int) + 1 := by omega
        cases hgj : g j
        · rw [hgj] at m1
          have HO2 : Hid (setS g (j + 1 + 1) = setS g (j + 1) ++ [(((j + 1 : Nat) : Int), ((j + 1 : Nat) : Int))]) := Lib.hid (by show setStep g (setS g (j + 1)) (j + 1) = _; unfold setStep; rw [if_pos hgk, if_neg (by rw [Nat.add_sub_cancel, hgj]; simp)])
          have hxl := setS_len g (j + 1)
          generalize setS g (j + 1) = xs at *
          rw [hkc] at HO2 ⊢
          clear hgk hgj hkc
          go_wp2_with fail
          go_quiet (fail)
          rename_i nq
          have HO3 := Lib.hid (HO.out.gr (below_drewN (Gr.refl wr) nq))
          have HG3 := Lib.hid (below_drewN HG.out nq)
          have m3 := cell_gr (below_drewN (Gr.refl wr) nq) m1
          clear HO HG m0 m1
          generalize wr.drewN nq = w2 at *
          go_wp2_with (at_builtin; refine push_r hi hz0 hz1 hz2 rfl _ _ rfl _ xs rfl HO3.out HG3.out ((j : Int) + 1) ((j : Int) + 1) w2.heap.size rfl rfl (by omega) ?_; rintro v5 w5 HO5 hg5; have HG5 := Lib.hid hg5; clear hg5)
          go_roundw
          case rel => exact ⟨j + 1 + 1, by go_num, by omega, Lib.hid (by rw [HO2.out]; exact HO5.out), HG5⟩
          case measure => simp [intOf]; omega
        · rw [hgj] at m1
          have hne := setS_ne g j hgj
          have HO2 : Hid (setS g (j + 1 + 1) = bumpL (setS g (j + 1)) ((j : Int) + 1)) := Lib.hid (by show setStep g (setS g (j + 1)) (j + 1) = _; unfold setStep; rw [if_pos hgk, if_pos ⟨by omega, by rw [Nat.add_sub_cancel, hgj]⟩, hkc])
          have hxl := setS_len g (j + 1)
          generalize setS g (j + 1) = xs at *
          rw [hkc]
          obtain ⟨ys, r, rfl⟩ : ∃ ys r, xs = ys ++ [r] := ⟨xs.dropLast, xs.getLast hne, (List.dropLast_concat_getLast hne).symm⟩
          clear hgk hgj hkc hne
          have hyl : ys.length + 1 ≤ j + 1 := by simpa using hxl
          go_wp2_with fail
          go_quiet (fail)
          rename_i nq
          have HO3 := Lib.hid (HO.out.gr (below_drewN (Gr.refl wr) nq))
          have HG3 := Lib.hid (below_drewN HG.out nq)
          have m3 := cell_gr (below_drewN (Gr.refl wr) nq) m1
          clear HO HG m0 m1
          generalize wr.drewN nq = w2 at *
          obtain ⟨b, cap, rfl, k0, k1, hO5, hG5, hb⟩ := HO3.out.bump HG3.out ((j : Int) + 1)
          have HO5 := Lib.hid hO5
          have HG5 := Lib.hid hG5
          clear hO5 hG5 HO3 HG3 hxl
          generalize ys.length = p at *
          go_wp2
          go_roundw
          case rel => exact ⟨j + 1 + 1, by go_num, by omega, Lib.hid (by rw [HO2.out]; exact HO5.out), HG5⟩
          case measure => simp [intOf]; omega
    · have hk2 : k = 1000 := by omega
      subst hk2
      go_wp2
      go_ret
      exact ⟨_, rfl, HO.out, HG.out⟩
end Go.Proofs.YtjideokeokmbaaaGreatDoor
