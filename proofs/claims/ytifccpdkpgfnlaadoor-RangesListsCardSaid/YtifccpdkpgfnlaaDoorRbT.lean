/- Law 6: slices.IsSorted, slices.Grow and slices.Concat of integers. -/
import Derived.Test.YtifccpdkpgfnlaaDoorRbO
import Derived.Lib.AppendZerosOnto
import Derived.Laws.AppendOwnNone
set_option linter.unusedVariables false
set_option linter.unusedSimpArgs false
namespace Go.Proofs.YtifccpdkpgfnlaaDoor
open Go.RowKit Go.Shelf
open Z
set_option maxHeartbeats 1000000 in
theorem cm_isNaN (x : Int) (w : World) : Calls Tryd.prog 85 #[.int .i64 x] w fun e w' => e = .returned (.bool false) ∧ w = w' := by
  go_enter Tryd.func85, Tryd.ntmps85
  go_wp2
  go_ret
  exact ⟨by simp, rfl⟩
set_option maxHeartbeats 1000000 in
theorem cm_Less (x y : Int) (w : World) : Calls Tryd.prog 70 #[.int .i64 x, .int .i64 y] w fun e w' => e = .returned (.bool (decide (x < y))) ∧ w = w' := by
  go_enter Tryd.func70, Tryd.ntmps70
  go_wp2_with fail
  refine (cm_isNaN _ _).mono ?_; rintro e w' ⟨rfl, rfl⟩
  go_wp2
  go_ret
  exact ⟨by first | rfl | simp, rfl⟩
set_option maxRecDepth 100000 in
set_option maxHeartbeats 2000000 in
theorem sl_IsSorted (a : Option Addr) (L : List Int) (cap : Nat) (w : World) (hL : IntsAt w a L) (hl : L.length ≤ 1000) (hs : L.Pairwise (· < ·)) :
    Calls Tryd.prog 38 #[.slice a L.length cap] w fun e w' => e = .returned (.bool true) ∧ Gr w w' := by
  have HL := Lib.hid hL
  have HS := Lib.hid (fun j (h : j + 1 < L.length) => List.pairwise_iff_getElem.1 hs j (j + 1) (by omega) h (by omega))
  obtain ⟨n, hn⟩ : ∃ n, L.length = n := ⟨_, rfl⟩
  have HN := Lib.hid hn
  rw [hn] at hl ⊢
  clear hL hn hs
  go_enter Tryd.func38, Tryd.ntmps38
  go_wp2
  go_loopw [3] (fun i wr => ∃ q : Int, i = .int .i64 q ∧ -1 ≤ q ∧ q < n ∧ Hid (Gr w wr)) (fun i _ => (intOf i).toNat)
  case atStart => exact ⟨(n : Int) - 1, rfl, by omega, by omega, Lib.hid (Gr.refl w)⟩
  case round =>
    obtain ⟨q, rfl, hq0, hq1, HG⟩ := hrel
    by_cases hlt : 0 < q
    · obtain ⟨j, rfl⟩ : ∃ j : Nat, q = (j : Int) + 1 := ⟨(q - 1).toNat, by omega⟩
      have h1 : j + 1 < L.length := by rw [HN.out]; omega
      obtain ⟨b, off, rfl, c0⟩ := (HL.out.gr HG.out).at (show j < L.length by omega)
      obtain ⟨b', off', hb, c1⟩ := (HL.out.gr HG.out).at h1
      cases hb
      have hxy := HS.out j h1
      generalize L[j + 1] = x at *
      generalize L[j] = y at *
      have HC : Hid (∀ w, Calls Tryd.prog 70 #[.int .i64 x, .int .i64 y] w fun e w' => e = .returned (.bool (decide (x < y))) ∧ w' = w) := Lib.hid (fun w => (cm_Less x y w).mono fun e w' ⟨h, h2⟩ => ⟨h, h2.symm⟩)
      have hd : decide (x < y) = false := decide_eq_false (by omega)
      rw [hd] at HC
      clear hd hxy
      go_wp2_with fail
      go_quiet ((go_at_call 70; exact Calls.quiet_of_same (HC.out _)))
      rename_i nq
      have HG3 := Lib.hid (below_drewN HG.out nq)
      go_wp2
      go_roundw
      case rel => exact ⟨(j : Int), by go_num, by omega, by omega, HG3⟩
      case measure => simp [intOf]
    · go_wp2
      go_ret
      exact ⟨rfl, HG.out⟩
set_option maxRecDepth 100000 in
set_option maxHeartbeats 2000000 in
theorem sl_Grow (n : Nat) (w : World) (h0 : 0 < n) (hn : n ≤ 1000000) :
    Calls Tryd.prog 71 #[.slice none 0 0, .int .i64 (n : Int)] w fun e w' => ∃ v, e = .returned v ∧ OwnI w.heap.size w' v [] ∧ Gr w w' := by
  obtain ⟨i0, hi, hz0, hz1, hz2⟩ := info_parts Tryd.infoInt
  have hold : (Builtin.firstCells i0.size 0 (.slice none 0 0)).run Tryd.prog w.drew = .ok (([] : List Value).toArray) w.drew := run_firstCells_none w.drew i0.size 0 0 0
  have hrz : ∀ ty, (Builtin.append_ #[35, 3] ty #[.slice none 0 0, .int .i64 (n : Int)]).run Tryd.prog w =
      .ok (.slice (some ⟨w.heap.size, 0, none⟩) n (grownCap w n 0 3)) (w.drew.alloc (.cells ((([] : List Value).toArray) ++ Builtin.zeroCells (Value.int .i64 0).cells n ++ Builtin.zeroCells (Value.int .i64 0).cells (grownCap w n 0 3 - n)) 3)) := fun ty => by
    have h := Lib.run_append_grow_zeros w 35 3 ty 3 i0 (.int .i64 0) .i64 .i64 Tryd.underlying35 Tryd.underlying3 hi hz0 none 0 0 [] hold n h0 (by omega) (by omega) (by omega) (by rw [hz2]; omega)
      (growslice_fits (by omega) (by rw [hz2]; omega))
    simpa only [Nat.zero_add] using h
  have hge : n ≤ grownCap w n 0 3 := grownCap_ge w _ _ _
  have hle := grownCap_le_maxLen w n 0 3 (by unfold maxLen; omega)
  generalize grownCap w n 0 3 = C at *
  have HO : Hid (OwnI w.heap.size (w.drew.alloc (.cells ((([] : List Value).toArray) ++ Builtin.zeroCells (Value.int .i64 0).cells n ++ Builtin.zeroCells (Value.int .i64 0).cells (C - n)) 3)) (.slice (some ⟨w.heap.size, 0, none⟩) 0 C) []) := Lib.hid (by
    refine ⟨rfl, .inr ⟨w.heap.size, C, _, rfl, Nat.le_refl _, World.alloc_heap_new w.drew _, Nat.zero_le _, hle, ?_, rfl⟩⟩
    rw [Array.size_append, Array.size_append, size_zeroCells, size_zeroCells]
    simp [Value.cells]
    omega)
  have HG : Hid (Gr w (w.drew.alloc (.cells ((([] : List Value).toArray) ++ Builtin.zeroCells (Value.int .i64 0).cells n ++ Builtin.zeroCells (Value.int .i64 0).cells (C - n)) 3))) := Lib.hid ((Below.drew (Gr.refl w)).alloc (Nat.le_refl _) _)
  have hC : C ≤ 9223372036854775807 := hle
  generalize (w.drew.alloc (.cells ((([] : List Value).toArray) ++ Builtin.zeroCells (Value.int .i64 0).cells n ++ Builtin.zeroCells (Value.int .i64 0).cells (C - n)) 3)) = W at *
  clear hold
  go_enter Tryd.func71, Tryd.ntmps71
  go_wp2_with (at_builtin; refine Lib.wpList_append_run _ rfl _ _ _ _ rfl _ _ rfl rfl _ _ (hrz _) ?_)
  go_ret
  exact ⟨_, rfl, HO.out, HG.out⟩
/-- slices of integers, one behind the other -/
def PartsAt (w : World) (p : Nat) (P : List (List Int)) : Prop := ∀ k (h : k < P.length), ∃ a c, w.cell? ⟨p, k, none⟩ = some (.slice a P[k].length c) ∧ IntsAt w a P[k] ∧ (a = none → c = 0)
theorem PartsAt.gr {w w' : World} {p : Nat} {P : List (List Int)} (h : PartsAt w p P) (hg : Gr w w') : PartsAt w' p P := fun k hk => by
  obtain ⟨a, c, h1, h2, h3⟩ := h k hk
  exact ⟨a, c, cell_gr hg h1, h2.gr hg, h3⟩
theorem flat_nxt {P : List (List Int)} {k : Nat} (h : k < P.length) : (P.take (k + 1)).flatten = (P.take k).flatten ++ P[k] := by
  rw [List.take_succ_eq_append_getElem h, List.flatten_append]; simp
theorem flat_len (P : List (List Int)) (k : Nat) : (P.take k).flatten.length ≤ P.flatten.length := by
  conv => rhs; rw [← List.take_append_drop k P, List.flatten_append, List.length_append]
  omega
set_option maxRecDepth 100000 in
set_option maxHeartbeats 2000000 in
theorem sl_Concat (p : Nat) (P : List (List Int)) (cap : Nat) (w : World) (hP : PartsAt w p P) (hm : P.length ≤ 10) (h0 : 0 < P.flatten.length) (h1 : P.flatten.length ≤ 100000) :
    Calls Tryd.prog 39 #[.slice (some ⟨p, 0, none⟩) P.length cap] w fun e w' => ∃ v, e = .returned v ∧ OwnI w.heap.size w' v P.flatten ∧ Gr w w' := by
  obtain ⟨i0, hi, hz0, hz1, hz2⟩ := info_parts Tryd.infoInt
  have HP := Lib.hid hP
  have HL := Lib.hid (fun k => Nat.le_trans (flat_len P k) h1)
  have HGR := Lib.hid (fun w' => sl_Grow P.flatten.length w' h0 (by omega))
  obtain ⟨m, hmm⟩ : ∃ m, P.length = m := ⟨_, rfl⟩
  have HM := Lib.hid hmm
  rw [hmm] at hm ⊢
  clear hP hmm
  go_enter Tryd.func39, Tryd.ntmps39
  go_wp2
  go_loopw [3, 11] (fun s i wr => ∃ k : Nat, i = .int .i64 k ∧ k ≤ m ∧ s = .int .i64 ((P.take k).flatten.length : Nat) ∧ Hid (Gr w wr)) (fun _ i _ => m - (intOf i).toNat)
  case atStart => exact ⟨0, rfl, by omega, by simp, Lib.hid (Gr.refl w)⟩
  case round =>
    obtain ⟨k, rfl, hk, rfl, HG⟩ := hrel
    by_cases hlt : k < m
    · have hkP : k < P.length := by rw [HM.out]; exact hlt
      obtain ⟨a, c, c0, -, -⟩ := HP.out.gr HG.out k hkP
      have HF := Lib.hid (congrArg List.length (flat_nxt hkP))
      have hl1 := HL.out (k + 1)
      rw [HF.out, List.length_append] at hl1
      rw [List.length_append] at HF
      generalize (P.take k).flatten.length = s at *
      generalize P[k].length = l at *
      go_wp2
      go_roundw
      case rel => exact ⟨k + 1, by go_num, by omega, by rw [HF.out]; go_num, HG⟩
      case measure => simp [intOf]; omega
    · have hk2 : k = P.length := by rw [HM.out]; omega
      have HT : Hid ((P.take k).flatten.length = P.flatten.length) := Lib.hid (by rw [hk2, List.take_length])
      rw [HT.out]
      clear hk2 HT
      have HGq := Lib.hid (HGR.out wr)
      clear HGR
      generalize P.flatten.length = T at *
      go_wp2_with fail
      refine HGq.out.mono ?_; rintro e w2 ⟨v, rfl, ho, hg⟩
      have HG2 := Lib.hid (Gr.trans HG.out hg)
      have HO := Lib.hid (ho.low HG.out.size)
      clear ho hg HG HGq
      go_wp2
      go_loopw [6, 27] (fun ow i wr => ∃ k : Nat, i = .int .i64 k ∧ k ≤ m ∧ Hid (OwnI w.heap.size wr ow (P.take k).flatten) ∧ Hid (Gr w wr)) (fun _ i _ => m - (intOf i).toNat)
      case atStart => exact ⟨0, rfl, by omega, Lib.hid (by simpa using HO.out), HG2⟩
      case round =>
        obtain ⟨k, rfl, hk, HO, HG⟩ := hrel
        by_cases hlt : k < m
        · have hkP : k < P.length := by rw [HM.out]; exact hlt
          obtain ⟨a, c, c0, hy, hc⟩ := HP.out.gr HG.out k hkP
          have HF := Lib.hid (flat_nxt hkP)
          have hl1 := HL.out (k + 1)
          rw [HF.out, List.length_append] at hl1
          generalize (P.take k).flatten = xs at *
          generalize P[k] = ys at *
          have HY := Lib.hid hy
          have HC := Lib.hid hc
          clear hy hc
          go_wp2_with (at_builtin; refine join_i hi hz0 hz1 hz2 rfl _ _ rfl _ xs rfl HO.out HG.out a ys c rfl HY.out HC.out (by omega) ?_; rintro v5 w5 HO5 hg5; have HG5 := Lib.hid hg5; clear hg5)
          go_roundw
          case rel => exact ⟨k + 1, by go_num, by omega, Lib.hid (by rw [HF.out]; exact HO5.out), HG5⟩
          case measure => simp [intOf]; omega
        · have hk2 : k = P.length := by rw [HM.out]; omega
          have ho := HO.out
          rw [hk2, List.take_length] at ho
          have HOe := Lib.hid ho
          clear HO ho hk2
          go_wp2
          go_ret
          exact ⟨_, rfl, HOe.out, HG.out⟩
end Go.Proofs.YtifccpdkpgfnlaaDoor
