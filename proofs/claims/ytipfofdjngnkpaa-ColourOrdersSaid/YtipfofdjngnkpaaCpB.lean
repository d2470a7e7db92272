/- Law 11: slices.Grow and slices.Concat of ints. -/
import Derived.Test.YtipfofdjngnkpaaCoY
import Derived.Lib.AppendZerosOnto
import Derived.Laws.AppendOwnNone
set_option linter.unusedVariables false
set_option linter.unusedSimpArgs false
namespace Go.Proofs.Ytipfofdjngnkpaa
open Go.RowKit
open Z
def IntsAt (W : World) (a : Option Addr) (L : List Int) : Prop :=
  (a = none ∧ L = []) ∨ ∃ b off, a = some ⟨b, off, none⟩ ∧ ∀ j (h : j < L.length), W.cell? ⟨b, off + j, none⟩ = some (.int .i64 L[j])
theorem IntsAt.gr {w w' : World} {a : Option Addr} {L : List Int} (h : IntsAt w a L) (hg : Gr w w') : IntsAt w' a L := by
  rcases h with h | ⟨b, off, ha, hc⟩
  · exact .inl h
  · exact .inr ⟨b, off, ha, fun j hj => gr_cell hg (hc j hj)⟩
theorem OwnI.low {B B' : Nat} {w : World} {v : Value} {l : List Int} (h : OwnI B w v l) (hB : B' ≤ B) : OwnI B' w v l := by
  refine ⟨h.1, ?_⟩
  rcases h.2 with h2 | ⟨g, cap, cur, h1, hb, h3⟩
  · exact .inl h2
  · exact .inr ⟨g, cap, cur, h1, Nat.le_trans hB hb, h3⟩
theorem join_i {i : TypeInfo} (hi : Try.prog.info? 3 = some i) (hz0 : i.zero = some (.int .i64 0)) (hz1 : i.size = 1) (hz2 : i.bytes = 8)
    {ops : Array Oper} {rest : List Oper} {o : Oper} {a : Act} {Q : Exit → Act → World → Prop} {w0 w : World} (hgd : o.guard = none) (s x : Operand)
    (ho : o.op = .call { callee := .builtin .append, args := #[s, x], argTypes := #[22, 22] }) (v : Value) (xs : List Int) (hs : a.eval s = v) (hown : OwnI w0.heap.size w v xs) (hg : Gr w0 w)
    (b : Option Addr) (ys : List Int) (c : Nat) (hx : a.eval x = .slice b ys.length c) (hy : IntsAt w b ys) (hc : b = none → c = 0) (hlen : xs.length + ys.length ≤ 10000000)
    (h : ∀ v' w', Hid (OwnI w0.heap.size w' v' (xs ++ ys)) → Gr w0 w' → wpList Try.prog ops Q rest (a.put o.dst v') w') :
    wpList Try.prog ops Q (o :: rest) a w := by
  cases b with
  | none =>
    have hys : ys = [] := by
      rcases hy with ⟨-, h⟩ | ⟨_, _, h, -⟩
      · exact h
      · cases h
    subst hys
    have hc0 := hc rfl
    subst hc0
    refine wpList_append_own_none hgd s x _ ho w0.heap.size 3 i 1 Try.underlying22 hi v xs.length (xs.map (Value.int .i64)) hs hown hx (h v w (Lib.hid (by rw [List.append_nil]; exact hown)) hg)
  | some ad =>
    obtain ⟨p, off, rfl, hcs⟩ : ∃ p off, ad = ⟨p, off, none⟩ ∧ ∀ j (h : j < ys.length), w.cell? ⟨p, off + j, none⟩ = some (.int .i64 ys[j]) := by
      rcases hy with ⟨h, -⟩ | ⟨p, off, h, h2⟩
      · cases h
      · cases h; exact ⟨p, off, rfl, h2⟩
    refine wpList_append_own _ hgd s x _ ho w0.heap.size 3 i (.int .i64 0) 1 8 Try.underlying22 hi hz0 hz1 hz2 rfl (by decide) v xs.length (xs.map (Value.int .i64)) hs hown ⟨p, off, none⟩ ys.length c (ys.map (Value.int .i64)) hx (by simp)
      (fun j u hj => ?_) (fun u hu => by obtain ⟨y, -, rfl⟩ := List.mem_map.1 hu; rfl) (by unfold maxLen; omega) (by omega) hg.size (fun v' w' hown' hgrow _ => h v' w' ?_ (Below.grown hg hgrow hg.size (fun k hk => (World.ownsRow.lt hown k hk).1)))
    · rw [WideShapes.add_plain]
      rw [List.getElem?_map] at hj
      by_cases hjl : j < ys.length
      · rw [List.getElem?_eq_getElem hjl] at hj
        simp only [Option.map_some, Option.some.injEq] at hj
        subst hj
        exact hcs j hjl
      · rw [List.getElem?_eq_none (by omega)] at hj; cases hj
    · show World.ownsRow _ _ _ _ _ _ _
      rw [show iv (xs ++ ys) = xs.map (Value.int .i64) ++ ys.map (Value.int .i64) by simp [iv], List.length_append]; exact hown'
set_option maxRecDepth 100000 in
set_option maxHeartbeats 2000000 in
theorem sl_Grow (n : Nat) (w : World) (h0 : 0 < n) (hn : n ≤ 1000000) :
    Calls Try.prog 48 #[.slice none 0 0, .int .i64 (n : Int)] w fun e w' => ∃ v, e = .returned v ∧ OwnI w.heap.size w' v [] ∧ Gr w w' := by
  obtain ⟨i0, hi, hz0, hz1, hz2⟩ := info_parts Try.infoI
  have hold : (Builtin.firstCells i0.size 0 (.slice none 0 0)).run Try.prog w.drew = .ok (([] : List Value).toArray) w.drew := run_firstCells_none w.drew i0.size 0 0 0
  have hrz : ∀ ty, (Builtin.append_ #[22, 3] ty #[.slice none 0 0, .int .i64 (n : Int)]).run Try.prog w =
      .ok (.slice (some ⟨w.heap.size, 0, none⟩) n (grownCap w n 0 3)) (w.drew.alloc (.cells ((([] : List Value).toArray) ++ Builtin.zeroCells (Value.int .i64 0).cells n ++ Builtin.zeroCells (Value.int .i64 0).cells (grownCap w n 0 3 - n)) 3)) := fun ty => by
    have h := Lib.run_append_grow_zeros w 22 3 ty 3 i0 (.int .i64 0) .i64 .i64 Try.underlying22 Try.underlying3 hi hz0 none 0 0 [] hold n h0 (by omega) (by omega) (by omega) (by rw [hz2]; omega)
      (growslice_fits (by omega) (by rw [hz2]; omega))
    simpa only [Nat.zero_add] using h
  have hge : n ≤ grownCap w n 0 3 := grownCap_ge w _ _ _
  have hle := grownCap_le_maxLen w n 0 3 (by unfold maxLen; omega)
  generalize grownCap w n 0 3 = C at *
  have HO : Hid (OwnI w.heap.size (w.drew.alloc (.cells ((([] : List Value).toArray) ++ Builtin.zeroCells (Value.int .i64 0).cells n ++ Builtin.zeroCells (Value.int .i64 0).cells (C - n)) 3)) (.slice (some ⟨w.heap.size, 0, none⟩) 0 C) []) := Lib.hid (by
    refine ⟨rfl, .inr ⟨w.heap.size, C, _, rfl, Nat.le_refl _, heap_alloc_last w.drew _, Nat.zero_le _, hle, ?_, rfl⟩⟩
    rw [Array.size_append, Array.size_append, size_zeroCells, size_zeroCells]
    simp [Value.cells]
    omega)
  have HG : Hid (Gr w (w.drew.alloc (.cells ((([] : List Value).toArray) ++ Builtin.zeroCells (Value.int .i64 0).cells n ++ Builtin.zeroCells (Value.int .i64 0).cells (C - n)) 3))) := Lib.hid ((Below.drew (Gr.refl w)).alloc (Nat.le_refl _) _)
  have hC : C ≤ 9223372036854775807 := hle
  generalize (w.drew.alloc (.cells ((([] : List Value).toArray) ++ Builtin.zeroCells (Value.int .i64 0).cells n ++ Builtin.zeroCells (Value.int .i64 0).cells (C - n)) 3)) = W at *
  clear hold
  go_enter Try.func48, Try.ntmps48
  go_wp2_with (at_builtin; refine Lib.wpList_append_run _ rfl _ _ _ _ rfl _ _ rfl rfl _ _ (hrz _) ?_)
  go_ret
  exact ⟨_, rfl, HO.out, HG.out⟩
/-- slices of integers, one behind the other -/
def PartsAt (w : World) (p : Nat) (P : List (List Int)) : Prop := ∀ k (h : k < P.length), ∃ a c, w.cell? ⟨p, k, none⟩ = some (.slice a P[k].length c) ∧ IntsAt w a P[k] ∧ (a = none → c = 0)
theorem PartsAt.gr {w w' : World} {p : Nat} {P : List (List Int)} (h : PartsAt w p P) (hg : Gr w w') : PartsAt w' p P := fun k hk => by
  obtain ⟨a, c, h1, h2, h3⟩ := h k hk
  exact ⟨a, c, gr_cell hg h1, h2.gr hg, h3⟩
theorem flat_nxt {P : List (List Int)} {k : Nat} (h : k < P.length) : (P.take (k + 1)).flatten = (P.take k).flatten ++ P[k] := by
  rw [List.take_succ_eq_append_getElem h, List.flatten_append]; simp
theorem flat_len (P : List (List Int)) (k : Nat) : (P.take k).flatten.length ≤ P.flatten.length := by
  conv => rhs; rw [← List.take_append_drop k P, List.flatten_append, List.length_append]
  omega
set_option maxRecDepth 100000 in
set_option maxHeartbeats 2000000 in
theorem sl_Concat (p : Nat) (P : List (List Int)) (cap : Nat) (w : World) (hP : PartsAt w p P) (hm : P.length ≤ 10) (h0 : 0 < P.flatten.length) (h1 : P.flatten.length ≤ 100000) :
    Calls Try.prog 25 #[.slice (some ⟨p, 0, none⟩) P.length cap] w fun e w' => ∃ v, e = .returned v ∧ OwnI w.heap.size w' v P.flatten ∧ Gr w w' := by
  obtain ⟨i0, hi, hz0, hz1, hz2⟩ := info_parts Try.infoI
  have HP := Lib.hid hP
  have HL := Lib.hid (fun k => Nat.le_trans (flat_len P k) h1)
  have HGR := Lib.hid (fun w' => sl_Grow P.flatten.length w' h0 (by omega))
  obtain ⟨m, hmm⟩ : ∃ m, P.length = m := ⟨_, rfl⟩
  have HM := Lib.hid hmm
  rw [hmm] at hm ⊢
  clear hP hmm
  go_enter Try.func25, Try.ntmps25
  go_wp2
  go_loopw [3, 11] (fun s i wr => ∃ k : Nat, i = .int .i64 k ∧ k ≤ m ∧ s = .int .i64 ((P.take k).flatten.length : Nat) ∧ Hid (Gr w wr)) (fun _ i _ => m - (intOf i).toNat)
  case atStart => exact ⟨0, rfl, by omega, by simp, Lib.hid (Gr.refl w)⟩
  case round =>
    obtain ⟨k, rfl, hk, rfl, HG⟩ := hrel
    by_cases hlt : k < m
    · have hkP : k < P.length := by rw [HM.out]; exact hlt
      obtain ⟨a, c, c0, -, -⟩ := HP.out.gr HG.out k hkP
      have HF := Lib.hid (congrArg List.length (flat_nxt hkP))
      have hl1 := HL.out (k + 1)
      rw [HF.out, List.length_append] at hl1
      rw [List.length_append] at HF
      generalize (P.take k).flatten.length = s at *
      generalize P[k].length = l at *
      go_wp2
      go_roundw
      case rel => exact ⟨k + 1, by go_num, by omega, by rw [HF.out]; go_num, HG⟩
      case measure => simp [intOf]; omega
    · have hk2 : k = P.length := by rw [HM.out]; omega
      have HT : Hid ((P.take k).flatten.length = P.flatten.length) := Lib.hid (by rw [hk2, List.take_length])
      rw [HT.out]
      clear hk2 HT
      have HGq := Lib.hid (HGR.out wr)
      clear HGR
      generalize P.flatten.length = T at *
      go_wp2_with fail
      refine HGq.out.mono ?_; rintro e w2 ⟨v, rfl, ho, hg⟩
      have HG2 := Lib.hid (Gr.trans HG.out hg)
      have HO := Lib.hid (ho.low HG.out.size)
      clear ho hg HG HGq
      go_wp2
      go_loopw [6, 27] (fun ow i wr => ∃ k : Nat, i = .int .i64 k ∧ k ≤ m ∧ Hid (OwnI w.heap.size wr ow (P.take k).flatten) ∧ Hid (Gr w wr)) (fun _ i _ => m - (intOf i).toNat)
      case atStart => exact ⟨0, rfl, by omega, Lib.hid (by simpa using HO.out), HG2⟩
      case round =>
        obtain ⟨k, rfl, hk, HO, HG⟩ := hrel
        by_cases hlt : k < m
        · have hkP : k < P.length := by rw [HM.out]; exact hlt
          obtain ⟨a, c, c0, hy, hc⟩ := HP.out.gr HG.out k hkP
          have HF := Lib.hid (flat_nxt hkP)
          have hl1 := HL.out (k + 1)
          rw [HF.out, List.length_append] at hl1
          generalize (P.take k).flatten = xs at *
          generalize P[k] = ys at *
          have HY := Lib.hid hy
          have HC := Lib.hid hc
          clear hy hc
          go_wp2_with (at_builtin; refine join_i hi hz0 hz1 hz2 rfl _ _ rfl _ xs rfl HO.out HG.out a ys c rfl HY.out HC.out (by omega) ?_; rintro v5 w5 HO5 hg5; have HG5 := Lib.hid hg5; clear hg5)
          go_roundw
          case rel => exact ⟨k + 1, by go_num, by omega, Lib.hid (by rw [HF.out]; exact HO5.out), HG5⟩
          case measure => simp [intOf]; omega
        · have hk2 : k = P.length := by rw [HM.out]; omega
          have ho := HO.out
          rw [hk2, List.take_length] at ho
          have HOe := Lib.hid ho
          clear HO ho hk2
          go_wp2
          go_ret
          exact ⟨_, rfl, HOe.out, HG.out⟩
end Go.Proofs.Ytipfofdjngnkpaa
