/- T4: All with where the list lies; slices.Grow and slices.Concat of records. -/
import Derived.Test.YtlcpfhgobfjioaaDoorTqC
import Derived.Lib.AppendZerosOnto
import Derived.Laws.AppendOwnNone
set_option linter.unusedVariables false
set_option linter.unusedSimpArgs false
namespace Go.Proofs.YtlcpfhgobfjioaaDoor
open Go.RowKit Go.Shelf
open Z Rc
theorem OwnE.shape2 {B : Nat} {w : World} {v : Value} {l : List E} (h : OwnE B w v l) : ∃ a cap, v = .slice a l.length cap ∧ RdE w a l ∧ l.length ≤ cap ∧ cap ≤ maxLen ∧ (a = none → cap = 0) := by
  rcases id h.2 with ⟨rfl, h0⟩ | ⟨g, cap, cur, rfl, -, -, hn1, hn2, -⟩
  · have : l = [] := List.eq_nil_of_length_eq_zero h0
    subst this
    exact ⟨none, 0, rfl, RdE.nil _ _, by simp, by unfold maxLen; omega, fun _ => rfl⟩
  · obtain ⟨a, c, e, hr, h1, h2⟩ := h.shape
    cases e
    exact ⟨_, _, rfl, hr, h1, h2, fun e => by cases e⟩
set_option maxHeartbeats 4000000 in
set_option maxRecDepth 100000 in
theorem rc_All2 (s : ByteArray) (w : World) (hs : s.size ≤ 100000) :
    Calls Tryd.prog 28 #[.string s] w fun e w' => (∃ a c, e = .returned (.tuple #[.slice a (al s.data.toList).1.length c, .int .i64 ((al s.data.toList).2.1 : Nat), .int .i64 (al s.data.toList).2.2]) ∧ RdE w' a (al s.data.toList).1 ∧ (al s.data.toList).1.length ≤ c ∧ c ≤ maxLen ∧ (a = none → c = 0)) ∧ Gr w w' := by
  have hsz : s.data.toList.length = s.size := by simp
  obtain ⟨i0, hi, hz0, hz1, hz2⟩ := info_parts Tryd.infoEE
  have HN := Lib.hid (fun (p : Nat) w => rc_Next s p w (by unfold maxLen; omega))
  obtain ⟨R, HR⟩ : ∃ R, Hid (al s.data.toList = R) := ⟨_, Lib.hid rfl⟩
  rw [HR.out]
  go_enter Tryd.func28, Tryd.ntmps28
  go_wp2
  go_loopw [5, 6] (fun v at_ wr => ∃ (L : List E) (p : Nat), at_ = .int .i64 p ∧ p ≤ s.size ∧ 5 * L.length ≤ p ∧ Hid (OwnE w.heap.size wr v L) ∧ Hid (Gr w wr) ∧ Hid (R = (L ++ (al (s.data.toList.drop p)).1, p + (al (s.data.toList.drop p)).2.1, (al (s.data.toList.drop p)).2.2))) (fun _ at_ _ => s.size - (intOf at_).toNat)
  case atStart => exact ⟨[], 0, rfl, by omega, by simp, OwnE.nil _ _, Gr.refl w, by show R = _; rw [List.drop_zero, HR.out]; simp⟩
  case round =>
    obtain ⟨L, p, rfl, hp, hL, HO, HG, HRL⟩ := hrel
    clear HR
    by_cases hlt : p < s.size
    · have hne : s.data.toList.drop p ≠ [] := by
        intro e
        have := congrArg List.length e
        rw [List.length_drop] at this
        simp at this; omega
      have C := Lib.hid (HN.out p)
      rw [nxAt_in _ _ (by omega)] at C
      unfold nV at C
      by_cases he : (nx (s.data.toList.drop p)).2.2 = 0
      · obtain ⟨o1, o2⟩ := nx_ok he
        rw [List.length_drop, hsz] at o2
        rw [if_pos he] at C
        rw [al_cons hne he] at HRL
        have hdd : (s.data.toList.drop p).drop (nx (s.data.toList.drop p)).2.1 = s.data.toList.drop (p + (nx (s.data.toList.drop p)).2.1) := by rw [List.drop_drop]
        rw [hdd] at HRL
        generalize (nx (s.data.toList.drop p)).2.1 = n at *
        generalize (nx (s.data.toList.drop p)).1 = x at *
        have HRL' : Hid (R = ((L ++ [x]) ++ (al (s.data.toList.drop (p + n))).1, (p + n) + (al (s.data.toList.drop (p + n))).2.1, (al (s.data.toList.drop (p + n))).2.2)) := by
          show R = _
          rw [HRL.out]; simp [Nat.add_assoc]
        obtain ⟨k, d⟩ := x
        simp only [] at C
        have hnI : (p : Int) + (n : Int) = ((p + n : Nat) : Int) := by omega
        rw [hnI] at C
        obtain ⟨q, hq⟩ : ∃ q, p + n = q := ⟨_, rfl⟩
        rw [hq] at C HRL'
        clear HRL hne he hdd HN hnI
        go_wp2_with fail
        refine (C.out _).mono ?_; rintro e w1 ⟨rfl, hg1⟩
        have HO1 := Lib.hid ((HO.out.gr hg1).gr ((Gr.refl w1).alloc (.cells #[.int .i64 k, .string d] 54)))
        have HG1 := Lib.hid ((Gr.trans HG.out hg1).alloc (.cells #[.int .i64 k, .string d] 54))
        clear hg1 HO HG
        go_wp2_with (at_builtin; refine push_e hi hz0 hz1 hz2 rfl _ _ rfl _ L rfl HO1.out HG1.out k d (w1.heap.size + 1) (by simp) rfl (by omega) ?_; rintro v5 w5 HO5 hg5; have HG5 := Lib.hid hg5; clear hg5)
        go_roundw
        case rel => exact ⟨L ++ [(k, d)], q, by go_num, by omega, by rw [List.length_append]; simp; omega, HO5, HG5.out, HRL'⟩
        case measure => simp [intOf]; omega
      · rw [if_neg he] at C
        rw [al_err hne he] at HRL
        have hR : R = (L, p, (nx (s.data.toList.drop p)).2.2) := by rw [HRL.out]; simp
        generalize (nx (s.data.toList.drop p)).2.2 = E at *
        subst hR
        have hEb : (E != 0) = true := by simpa using he
        simp only [] at C
        clear HRL hne he HN
        go_wp2_with fail
        refine (C.out _).mono ?_; rintro e w1 ⟨rfl, hg1⟩
        have ho := (HO.out.gr hg1).gr ((Gr.refl w1).alloc (.cells #[.int .i64 0, .string .empty] 54))
        have HG1 := Lib.hid ((Gr.trans HG.out hg1).alloc (.cells #[.int .i64 0, .string .empty] 54))
        obtain ⟨a', c', hv, hr, hc1, hc2, hc3⟩ := ho.shape2
        subst hv
        have HRD := Lib.hid hr
        have HCC := Lib.hid hc1
        have HCM := Lib.hid hc2
        have HC3 := Lib.hid hc3
        clear hg1 HO HG ho hr hc1 hc2 hc3
        go_wp2
        go_ret3
        exact ⟨⟨a', c', rfl, HRD.out, HCC.out, HCM.out, HC3.out⟩, HG1.out⟩
    · have hd : s.data.toList.drop p = [] := List.drop_of_length_le (by omega)
      rw [hd, al_nil] at HRL
      have hR : R = (L, p, 0) := by rw [HRL.out]; simp
      subst hR
      obtain ⟨a', c', hv, hr, hc1, hc2, hc3⟩ := HO.out.shape2
      subst hv
      have HRD := Lib.hid hr
      have HCC := Lib.hid hc1
      have HCM := Lib.hid hc2
      have HC3 := Lib.hid hc3
      clear HO hr hc1 hc2 hc3 HRL
      go_wp2
      go_ret3
      exact ⟨⟨a', c', rfl, HRD.out, HCC.out, HCM.out, HC3.out⟩, HG.out⟩
theorem tq_last (w : World) (o : Obj) : (w.alloc o).heap[w.heap.size]? = some o := by
  show (w.heap.push o)[w.heap.size]? = some o
  simp
theorem OwnE.low {B B' : Nat} {w : World} {v : Value} {l : List E} (h : OwnE B w v l) (hB : B' ≤ B) : OwnE B' w v l := by
  refine ⟨h.1, ?_⟩
  rcases h.2 with h2 | ⟨g, cap, cur, h1, hb, h3⟩
  · exact .inl h2
  · exact .inr ⟨g, cap, cur, h1, Nat.le_trans hB hb, h3⟩
theorem ev_app (l r : List E) : ev (l ++ r) = ev l ++ ev r := by simp [ev]
theorem ev_len (l : List E) : (ev l).length = l.length * 2 := by
  induction l with
  | nil => rfl
  | cons r l ih => unfold ev at ih ⊢; rw [List.flatMap_cons, List.length_append, ih]; simp; omega
theorem join_e {i : TypeInfo} (hi : Tryd.prog.info? 54 = some i) (hz0 : i.zero = some (.agg #[.int .i64 0, .string ⟨#[]⟩])) (hz1 : i.size = 2) (hz2 : i.bytes = 24)
    {ops : Array Oper} {rest : List Oper} {o : Oper} {a : Act} {Q : Exit → Act → World → Prop} {w0 w : World} (hgd : o.guard = none) (s x : Operand)
    (ho : o.op = .call { callee := .builtin .append, args := #[s, x], argTypes := #[60, 60] }) (v : Value) (xs : List E) (hs : a.eval s = v) (hown : OwnE w0.heap.size w v xs) (hg : Gr w0 w)
    (b : Option Addr) (ys : List E) (c : Nat) (hx : a.eval x = .slice b ys.length c) (hy : RdE w b ys) (hc : b = none → c = 0) (hlen : xs.length + ys.length ≤ 10000000)
    (h : ∀ v' w', Hid (OwnE w0.heap.size w' v' (xs ++ ys)) → Gr w0 w' → wpList Tryd.prog ops Q rest (a.put o.dst v') w') :
    wpList Tryd.prog ops Q (o :: rest) a w := by
  cases b with
  | none =>
    have hys : ys = [] := by
      cases ys with
      | nil => rfl
      | cons q l => obtain ⟨b, o, e, -⟩ := hy 0 (by simp); exact absurd e (by simp)
    subst hys
    have hc0 := hc rfl
    subst hc0
    refine wpList_append_own_none hgd s x _ ho w0.heap.size 54 i 2 Tryd.underlying60 hi v xs.length (ev xs) hs hown hx (h v w (Lib.hid (by rw [List.append_nil]; exact hown)) hg)
  | some ad =>
    refine wpList_append_own _ hgd s x _ ho w0.heap.size 54 i (.agg #[.int .i64 0, .string ⟨#[]⟩]) 2 24 Tryd.underlying60 hi hz0 hz1 hz2 rfl (by decide) v xs.length (ev xs) hs hown ad ys.length c (ev ys) hx (by rw [ev_len])
      (fun j u hj => ?_) (fun u hu => by
        obtain ⟨y, -, hy⟩ := List.mem_flatMap.1 hu
        exact en_one u hy) (by unfold maxLen; omega) (by omega) hg.size (fun v' w' hown' hgrow _ => h v' w' ?_ (Below.grown hg hgrow hg.size (fun k hk => (World.ownsRow.lt hown k hk).1)))
    · have hjn : j < ys.length * 2 := by
        have := (List.getElem?_eq_some_iff.1 hj).1
        rwa [ev_len] at this
      obtain ⟨p, off, e, c0, c1⟩ := hy (j / 2) (by omega)
      cases e
      rw [WideShapes.add_plain]
      obtain ⟨g0, g1⟩ := ev_get ys (j / 2) (by omega)
      rcases (show j = j / 2 * 2 ∨ j = j / 2 * 2 + 1 by omega) with h | h
      · rw [h, g0] at hj; cases hj; rw [show off + j = off + j / 2 * 2 by omega]; exact c0
      · rw [h, g1] at hj; cases hj; rw [show off + j = off + j / 2 * 2 + 1 by omega]; exact c1
    · show World.ownsRow _ _ _ _ _ _ _
      rw [ev_app, List.length_append]; exact hown'
set_option maxRecDepth 100000 in
set_option maxHeartbeats 2000000 in
theorem sl_GrowE (n : Nat) (w : World) (h0 : 0 < n) (hn : n ≤ 1000000) :
    Calls Tryd.prog 54 #[.slice none 0 0, .int .i64 (n : Int)] w fun e w' => ∃ v, e = .returned v ∧ OwnE w.heap.size w' v [] ∧ Gr w w' := by
  obtain ⟨i0, hi, hz0, hz1, hz2⟩ := info_parts Tryd.infoEE
  have hold : (Builtin.firstCells i0.size 0 (.slice none 0 0)).run Tryd.prog w.drew = .ok (([] : List Value).toArray) w.drew := run_firstCells_none w.drew i0.size 0 0 0
  have hrz : ∀ ty, (Builtin.append_ #[60, 3] ty #[.slice none 0 0, .int .i64 (n : Int)]).run Tryd.prog w =
      .ok (.slice (some ⟨w.heap.size, 0, none⟩) n (grownCap w n 0 54)) (w.drew.alloc (.cells ((([] : List Value).toArray) ++ Builtin.zeroCells (Value.agg #[.int .i64 0, .string ⟨#[]⟩]).cells n ++ Builtin.zeroCells (Value.agg #[.int .i64 0, .string ⟨#[]⟩]).cells (grownCap w n 0 54 - n)) 54)) := fun ty => by
    have h := Lib.run_append_grow_zeros w 60 3 ty 54 i0 (.agg #[.int .i64 0, .string ⟨#[]⟩]) .i64 .i64 Tryd.underlying60 Tryd.underlying3 hi hz0 none 0 0 [] hold n h0 (by omega) (by omega) (by omega) (by rw [hz2]; omega)
      (growslice_fits (by omega) (by rw [hz2]; omega))
    simpa only [Nat.zero_add] using h
  have hge : n ≤ grownCap w n 0 54 := grownCap_ge w _ _ _
  have hle := grownCap_le_maxLen w n 0 54 (by unfold maxLen; omega)
  generalize grownCap w n 0 54 = C at *
  have HO : Hid (OwnE w.heap.size (w.drew.alloc (.cells ((([] : List Value).toArray) ++ Builtin.zeroCells (Value.agg #[.int .i64 0, .string ⟨#[]⟩]).cells n ++ Builtin.zeroCells (Value.agg #[.int .i64 0, .string ⟨#[]⟩]).cells (C - n)) 54)) (.slice (some ⟨w.heap.size, 0, none⟩) 0 C) []) := Lib.hid (by
    refine ⟨rfl, .inr ⟨w.heap.size, C, _, rfl, Nat.le_refl _, tq_last w.drew _, Nat.zero_le _, hle, ?_, rfl⟩⟩
    rw [Array.size_append, Array.size_append, size_zeroCells, size_zeroCells]
    simp [Value.cells]
    omega)
  have HG : Hid (Gr w (w.drew.alloc (.cells ((([] : List Value).toArray) ++ Builtin.zeroCells (Value.agg #[.int .i64 0, .string ⟨#[]⟩]).cells n ++ Builtin.zeroCells (Value.agg #[.int .i64 0, .string ⟨#[]⟩]).cells (C - n)) 54))) := Lib.hid ((Below.drew (Gr.refl w)).alloc (Nat.le_refl _) _)
  have hC : C ≤ 9223372036854775807 := hle
  generalize (w.drew.alloc (.cells ((([] : List Value).toArray) ++ Builtin.zeroCells (Value.agg #[.int .i64 0, .string ⟨#[]⟩]).cells n ++ Builtin.zeroCells (Value.agg #[.int .i64 0, .string ⟨#[]⟩]).cells (C - n)) 54)) = W at *
  clear hold
  go_enter Tryd.func54, Tryd.ntmps54
  go_wp2_with (at_builtin; refine Lib.wpList_append_run _ rfl _ _ _ _ rfl _ _ rfl rfl _ _ (hrz _) ?_)
  go_ret
  exact ⟨_, rfl, HO.out, HG.out⟩
set_option maxRecDepth 100000 in
set_option maxHeartbeats 2000000 in
theorem sl_GrowE0 (w : World) : Calls Tryd.prog 54 #[.slice none 0 0, .int .i64 0] w fun e w' => ∃ v, e = .returned v ∧ OwnE w.heap.size w' v [] ∧ Gr w w' := by
  go_enter Tryd.func54, Tryd.ntmps54
  go_wp2
  go_ret
  exact ⟨_, rfl, OwnE.nil _ _, Gr.refl _⟩
theorem sl_GrowEA (n : Nat) (w : World) (hn : n ≤ 1000000) :
    Calls Tryd.prog 54 #[.slice none 0 0, .int .i64 (n : Int)] w fun e w' => ∃ v, e = .returned v ∧ OwnE w.heap.size w' v [] ∧ Gr w w' := by
  by_cases h : 0 < n
  · exact sl_GrowE n w h hn
  · have : n = 0 := by omega
    subst this
    exact sl_GrowE0 w
/-- slices of integers, one behind the other -/
def PartsE (w : World) (p : Nat) (P : List (List E)) : Prop := ∀ k (h : k < P.length), ∃ a c, w.cell? ⟨p, k, none⟩ = some (.slice a P[k].length c) ∧ RdE w a P[k] ∧ (a = none → c = 0)
theorem PartsE.gr {w w' : World} {p : Nat} {P : List (List E)} (h : PartsE w p P) (hg : Gr w w') : PartsE w' p P := fun k hk => by
  obtain ⟨a, c, h1, h2, h3⟩ := h k hk
  exact ⟨a, c, gr_cell hg h1, h2.gr hg, h3⟩
theorem flat_nxtE {P : List (List E)} {k : Nat} (h : k < P.length) : (P.take (k + 1)).flatten = (P.take k).flatten ++ P[k] := by
  rw [List.take_succ_eq_append_getElem h, List.flatten_append]; simp
theorem flat_lenE (P : List (List E)) (k : Nat) : (P.take k).flatten.length ≤ P.flatten.length := by
  conv => rhs; rw [← List.take_append_drop k P, List.flatten_append, List.length_append]
  omega
set_option maxRecDepth 100000 in
set_option maxHeartbeats 2000000 in
theorem sl_ConcatE (p : Nat) (P : List (List E)) (cap : Nat) (w : World) (hP : PartsE w p P) (hm : P.length ≤ 10) (h1 : P.flatten.length ≤ 100000) :
    Calls Tryd.prog 30 #[.slice (some ⟨p, 0, none⟩) P.length cap] w fun e w' => ∃ v, e = .returned v ∧ OwnE w.heap.size w' v P.flatten ∧ Gr w w' := by
  obtain ⟨i0, hi, hz0, hz1, hz2⟩ := info_parts Tryd.infoEE
  have HP := Lib.hid hP
  have HL := Lib.hid (fun k => Nat.le_trans (flat_lenE P k) h1)
  have HGR := Lib.hid (fun w' => sl_GrowEA P.flatten.length w' (by omega))
  obtain ⟨m, hmm⟩ : ∃ m, P.length = m := ⟨_, rfl⟩
  have HM := Lib.hid hmm
  rw [hmm] at hm ⊢
  clear hP hmm
  go_enter Tryd.func30, Tryd.ntmps30
  go_wp2
  go_loopw [3, 11] (fun s i wr => ∃ k : Nat, i = .int .i64 k ∧ k ≤ m ∧ s = .int .i64 ((P.take k).flatten.length : Nat) ∧ Hid (Gr w wr)) (fun _ i _ => m - (intOf i).toNat)
  case atStart => exact ⟨0, rfl, by omega, by simp, Lib.hid (Gr.refl w)⟩
  case round =>
    obtain ⟨k, rfl, hk, rfl, HG⟩ := hrel
    by_cases hlt : k < m
    · have hkP : k < P.length := by rw [HM.out]; exact hlt
      obtain ⟨a, c, c0, -, -⟩ := HP.out.gr HG.out k hkP
      have HF := Lib.hid (congrArg List.length (flat_nxtE hkP))
      have hl1 := HL.out (k + 1)
      rw [HF.out, List.length_append] at hl1
      rw [List.length_append] at HF
      generalize (P.take k).flatten.length = s at *
      generalize P[k].length = l at *
      go_wp2
      go_roundw
      case rel => exact ⟨k + 1, by go_num, by omega, by rw [HF.out]; go_num, HG⟩
      case measure => simp [intOf]; omega
    · have hk2 : k = P.length := by rw [HM.out]; omega
      have HT : Hid ((P.take k).flatten.length = P.flatten.length) := Lib.hid (by rw [hk2, List.take_length])
      rw [HT.out]
      clear hk2 HT
      have HGq := Lib.hid (HGR.out wr)
      clear HGR
      generalize P.flatten.length = T at *
      go_wp2_with fail
      refine HGq.out.mono ?_; rintro e w2 ⟨v, rfl, ho, hg⟩
      have HG2 := Lib.hid (Gr.trans HG.out hg)
      have HO := Lib.hid (ho.low HG.out.size)
      clear ho hg HG HGq
      go_wp2
      go_loopw [6, 27] (fun ow i wr => ∃ k : Nat, i = .int .i64 k ∧ k ≤ m ∧ Hid (OwnE w.heap.size wr ow (P.take k).flatten) ∧ Hid (Gr w wr)) (fun _ i _ => m - (intOf i).toNat)
      case atStart => exact ⟨0, rfl, by omega, Lib.hid (by simpa using HO.out), HG2⟩
      case round =>
        obtain ⟨k, rfl, hk, HO, HG⟩ := hrel
        by_cases hlt : k < m
        · have hkP : k < P.length := by rw [HM.out]; exact hlt
          obtain ⟨a, c, c0, hy, hc⟩ := HP.out.gr HG.out k hkP
          have HF := Lib.hid (flat_nxtE hkP)
          have hl1 := HL.out (k + 1)
          rw [HF.out, List.length_append] at hl1
          generalize (P.take k).flatten = xs at *
          generalize P[k] = ys at *
          have HY := Lib.hid hy
          have HC := Lib.hid hc
          clear hy hc
          go_wp2_with (at_builtin; refine join_e hi hz0 hz1 hz2 rfl _ _ rfl _ xs rfl HO.out HG.out a ys c rfl HY.out HC.out (by omega) ?_; rintro v5 w5 HO5 hg5; have HG5 := Lib.hid hg5; clear hg5)
          go_roundw
          case rel => exact ⟨k + 1, by go_num, by omega, Lib.hid (by rw [HF.out]; exact HO5.out), HG5⟩
          case measure => simp [intOf]; omega
        · have hk2 : k = P.length := by rw [HM.out]; omega
          have ho := HO.out
          rw [hk2, List.take_length] at ho
          have HOe := Lib.hid ho
          clear HO ho hk2
          go_wp2
          go_ret
          exact ⟨_, rfl, HOe.out, HG.out⟩
end Go.Proofs.YtlcpfhgobfjioaaDoor
