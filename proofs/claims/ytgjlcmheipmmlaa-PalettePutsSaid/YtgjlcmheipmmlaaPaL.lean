/- Law 15: clones, copies and joins of palettes. -/
import Derived.Test.YtgjlcmheipmmlaaPaO
import Derived.Lib.SliceRun
set_option linter.unusedVariables false
set_option linter.unusedSimpArgs false
namespace Go.Proofs.Ytgjlcmheipmmlaa
open Go.RowKit
open Z
theorem Own.empty {α : Type} (S : Sh α) (w : World) : Own S w.heap.size (w.alloc (.cells #[] S.t)) (.slice (some ⟨w.heap.size, 0, none⟩) 0 0) [] :=
  ⟨by simp [Sh.all], .inr ⟨w.heap.size, 0, #[], rfl, Nat.le_refl _, heap_alloc_last w _, Nat.le_refl _, Nat.zero_le _, by simp, by simp [Sh.all]⟩⟩
set_option maxRecDepth 100000 in
set_option maxHeartbeats 1000000 in
theorem sl_CloneH {a : Option Addr} {l : List Hu} {cap : Nat} (w : World) (hr : Rd shH w a l) (hok : SlOk a cap) (hlen : l.length ≤ 900000) :
    Calls Try.prog 88 #[.slice a l.length cap] w fun e w' => OwnRet shH w.heap.size w' e l ∧ Gr w w' := by
  cases a with
  | none =>
    have hl : l = [] := by
      cases l with
      | nil => rfl
      | cons y t => obtain ⟨_, _, e, -⟩ := hr 0 (by simp); cases e
    subst hl
    show Calls _ _ #[.slice none 0 cap] _ _
    have hnil := fun W => Lib.run_eql_slice_nil (P := Try.prog) W 37 _ none 0 cap 0 0 Try.underlying37
    clear hr hok
    go_enter Try.func88, Try.ntmps88
    go_wp2
    go_ret
    exact ⟨⟨_, rfl, Own.nil _ _ _⟩, Gr.refl _⟩
  | some ad =>
    have hnil := fun W => Lib.run_eql_slice_nil (P := Try.prog) W 37 _ (some ad) l.length cap 0 0 Try.underlying37
    have HR := Lib.hid (hr.gr ((Gr.refl w).alloc (.cells #[] shH.t)))
    have HK := Lib.hid hok
    have HE := Lib.hid (Own.empty shH w)
    have HG := Lib.hid ((Gr.refl w).alloc (.cells #[] shH.t))
    clear hr hok
    go_enter Try.func88, Try.ntmps88
    go_wp2_with (at_builtin; refine join_s shH rfl _ _ rfl _ [] rfl HE.out (by simp) (some ad) l cap rfl HR.out HK.out (by simp; omega) ?_; rintro v5 w5 HO5 hg5 -; have HG5 := Lib.hid (show Gr w w5 from Below.trans HG.out hg5); clear hg5)
    go_ret
    exact ⟨⟨_, rfl, by simpa using HO5.out⟩, HG5.out⟩
set_option maxRecDepth 100000 in
set_option maxHeartbeats 1000000 in
theorem sl_CloneP {a : Option Addr} {l : List PV} {cap : Nat} (w : World) (hr : Rd shG w a l) (hok : SlOk a cap) (hlen : l.length ≤ 900000) :
    Calls Try.prog 87 #[.slice a l.length cap] w fun e w' => OwnRet shG w.heap.size w' e l ∧ Gr w w' := by
  cases a with
  | none =>
    have hl : l = [] := by
      cases l with
      | nil => rfl
      | cons y t => obtain ⟨_, _, e, -⟩ := hr 0 (by simp); cases e
    subst hl
    show Calls _ _ #[.slice none 0 cap] _ _
    have hnil := fun W => Lib.run_eql_slice_nil (P := Try.prog) W 25 _ none 0 cap 0 0 Try.underlying25
    clear hr hok
    go_enter Try.func87, Try.ntmps87
    go_wp2
    go_ret
    exact ⟨⟨_, rfl, Own.nil _ _ _⟩, Gr.refl _⟩
  | some ad =>
    have hnil := fun W => Lib.run_eql_slice_nil (P := Try.prog) W 25 _ (some ad) l.length cap 0 0 Try.underlying25
    have HR := Lib.hid (hr.gr ((Gr.refl w).alloc (.cells #[] shG.t)))
    have HK := Lib.hid hok
    have HE := Lib.hid (Own.empty shG w)
    have HG := Lib.hid ((Gr.refl w).alloc (.cells #[] shG.t))
    clear hr hok
    go_enter Try.func87, Try.ntmps87
    go_wp2_with (at_builtin; refine join_s shG rfl _ _ rfl _ [] rfl HE.out (by simp) (some ad) l cap rfl HR.out HK.out (by simp; omega) ?_; rintro v5 w5 HO5 hg5 -; have HG5 := Lib.hid (show Gr w w5 from Below.trans HG.out hg5); clear hg5)
    go_ret
    exact ⟨⟨_, rfl, by simpa using HO5.out⟩, HG5.out⟩
set_option maxRecDepth 100000 in
set_option maxHeartbeats 2000000 in
theorem sl_Grow0 (w : World) : Calls Try.prog 86 #[.slice none 0 0, .int .i64 0] w fun e w' => e = .returned (.slice none 0 0) ∧ w = w' := by
  go_enter Try.func86, Try.ntmps86
  go_wp2
  go_ret
  exact ⟨rfl, rfl⟩
set_option maxRecDepth 100000 in
set_option maxHeartbeats 2000000 in
theorem sl_GrowP (n : Nat) (w : World) (h0 : 0 < n) (hn : n ≤ 10000) :
    Calls Try.prog 86 #[.slice none 0 0, .int .i64 (n : Int)] w fun e w' => ∃ v, e = .returned v ∧ Own shG w.heap.size w' v [] ∧ Gr w w' := by
  obtain ⟨i0, hi, hz0, hz1, hz2⟩ := Try.infoPl
  have hold : (Builtin.firstCells i0.size 0 (.slice none 0 0)).run Try.prog w.drew = .ok (([] : List Value).toArray) w.drew := run_firstCells_none w.drew i0.size 0 0 0
  have hrz : ∀ ty, (Builtin.append_ #[25, 3] ty #[.slice none 0 0, .int .i64 (n : Int)]).run Try.prog w =
      .ok (.slice (some ⟨w.heap.size, 0, none⟩) n (grownCap w n 0 39)) (w.drew.alloc (.cells ((([] : List Value).toArray) ++ Builtin.zeroCells (Value.agg #[.int .i64 0, .slice none 0 0]).cells n ++ Builtin.zeroCells (Value.agg #[.int .i64 0, .slice none 0 0]).cells (grownCap w n 0 39 - n)) 39)) := fun ty => by
    have h := Lib.run_append_grow_zeros w 25 3 ty 39 i0 (.agg #[.int .i64 0, .slice none 0 0]) .i64 .i64 Try.underlying25 Try.underlying3 hi hz0 none 0 0 [] hold n h0 (by omega) (by omega) (by omega) (by rw [hz2]; omega)
      (growslice_fits (by omega) (by rw [hz2]; omega))
    simpa only [Nat.zero_add] using h
  have hge : n ≤ grownCap w n 0 39 := grownCap_ge w _ _ _
  have hle := grownCap_le_maxLen w n 0 39 (by unfold maxLen; omega)
  generalize grownCap w n 0 39 = C at *
  have HO : Hid (Own shG w.heap.size (w.drew.alloc (.cells ((([] : List Value).toArray) ++ Builtin.zeroCells (Value.agg #[.int .i64 0, .slice none 0 0]).cells n ++ Builtin.zeroCells (Value.agg #[.int .i64 0, .slice none 0 0]).cells (C - n)) 39)) (.slice (some ⟨w.heap.size, 0, none⟩) 0 C) []) := Lib.hid (by
    refine ⟨rfl, .inr ⟨w.heap.size, C, _, rfl, Nat.le_refl _, heap_alloc_last w.drew _, Nat.zero_le _, hle, ?_, rfl⟩⟩
    rw [Array.size_append, Array.size_append, size_zeroCells, size_zeroCells]
    rw [show shG.sz = 2 from rfl]
    simp [Value.cells]
    omega)
  have HG : Hid (Gr w (w.drew.alloc (.cells ((([] : List Value).toArray) ++ Builtin.zeroCells (Value.agg #[.int .i64 0, .slice none 0 0]).cells n ++ Builtin.zeroCells (Value.agg #[.int .i64 0, .slice none 0 0]).cells (C - n)) 39))) := Lib.hid ((Below.drew (Gr.refl w)).alloc (Nat.le_refl _) _)
  have hC : C ≤ 9223372036854775807 := hle
  generalize (w.drew.alloc (.cells ((([] : List Value).toArray) ++ Builtin.zeroCells (Value.agg #[.int .i64 0, .slice none 0 0]).cells n ++ Builtin.zeroCells (Value.agg #[.int .i64 0, .slice none 0 0]).cells (C - n)) 39)) = W at *
  clear hold
  go_enter Try.func86, Try.ntmps86
  go_wp2_with (at_builtin; refine Lib.wpList_append_run _ rfl _ _ _ _ rfl _ _ rfl rfl _ _ (hrz _) ?_)
  go_ret
  exact ⟨_, rfl, HO.out, HG.out⟩
theorem sl_Grow (n : Nat) (w : World) (hn : n ≤ 10000) :
    Calls Try.prog 86 #[.slice none 0 0, .int .i64 (n : Int)] w fun e w' => ∃ v, e = .returned v ∧ Own shG w.heap.size w' v [] ∧ Gr w w' := by
  by_cases h0 : n = 0
  · subst h0
    refine (sl_Grow0 w).mono ?_
    rintro e w' ⟨rfl, rfl⟩
    exact ⟨_, rfl, Own.nil shG _ _, Gr.refl _⟩
  · exact sl_GrowP n w (by omega) hn
/-- slices of groups, one behind the other -/
def PartsAt (w : World) (p : Nat) (P : List (List PV)) : Prop := ∀ k (h : k < P.length), ∃ a c, w.cell? ⟨p, k, none⟩ = some (.slice a P[k].length c) ∧ Rd shG w a P[k] ∧ SlOk a c
theorem PartsAt.gr {w w' : World} {p : Nat} {P : List (List PV)} (h : PartsAt w p P) (hg : Gr w w') : PartsAt w' p P := fun k hk => by
  obtain ⟨a, c, h1, h2, h3⟩ := h k hk
  exact ⟨a, c, gr_cell hg h1, h2.gr hg, h3⟩
theorem flat_nxt {P : List (List PV)} {k : Nat} (h : k < P.length) : (P.take (k + 1)).flatten = (P.take k).flatten ++ P[k] := by
  rw [List.take_succ_eq_append_getElem h, List.flatten_append]; simp
theorem flat_len (P : List (List PV)) (k : Nat) : (P.take k).flatten.length ≤ P.flatten.length := by
  conv => rhs; rw [← List.take_append_drop k P, List.flatten_append, List.length_append]
  omega
set_option maxRecDepth 100000 in
set_option maxHeartbeats 2000000 in
theorem sl_Concat (p : Nat) (P : List (List PV)) (cap : Nat) (w : World) (hP : PartsAt w p P) (hm : P.length ≤ 10) (h1 : P.flatten.length ≤ 10000) :
    Calls Try.prog 61 #[.slice (some ⟨p, 0, none⟩) P.length cap] w fun e w' => ∃ v, e = .returned v ∧ Own shG w.heap.size w' v P.flatten ∧ Gr w w' := by
  obtain ⟨i0, hi, hz0, hz1, hz2⟩ := Try.infoPl
  have HP := Lib.hid hP
  have HL := Lib.hid (fun k => Nat.le_trans (flat_len P k) h1)
  have HGR := Lib.hid (fun w' => sl_Grow P.flatten.length w' h1)
  obtain ⟨m, hmm⟩ : ∃ m, P.length = m := ⟨_, rfl⟩
  have HM := Lib.hid hmm
  rw [hmm] at hm ⊢
  clear hP hmm
  go_enter Try.func61, Try.ntmps61
  go_wp2
  go_loopw [3, 11] (fun s i wr => ∃ k : Nat, i = .int .i64 k ∧ k ≤ m ∧ s = .int .i64 ((P.take k).flatten.length : Nat) ∧ Hid (Gr w wr)) (fun _ i _ => m - (intOf i).toNat)
  case atStart => exact ⟨0, rfl, by omega, by simp, Lib.hid (Gr.refl w)⟩
  case round =>
    obtain ⟨k, rfl, hk, rfl, HG⟩ := hrel
    by_cases hlt : k < m
    · have hkP : k < P.length := by rw [HM.out]; exact hlt
      obtain ⟨a, c, c0, -, -⟩ := HP.out.gr HG.out k hkP
      have HF := Lib.hid (congrArg List.length (flat_nxt hkP))
      have hl1 := HL.out (k + 1)
      rw [HF.out, List.length_append] at hl1
      rw [List.length_append] at HF
      generalize (P.take k).flatten.length = s at *
      generalize P[k].length = l at *
      go_wp2
      go_roundw
      case rel => exact ⟨k + 1, by go_num, by omega, by rw [HF.out]; go_num, HG⟩
      case measure => simp [intOf]; omega
    · have hk2 : k = P.length := by rw [HM.out]; omega
      have HT : Hid ((P.take k).flatten.length = P.flatten.length) := Lib.hid (by rw [hk2, List.take_length])
      rw [HT.out]
      clear hk2 HT
      have HGq := Lib.hid (HGR.out wr)
      clear HGR
      generalize P.flatten.length = T at *
      go_wp2_with fail
      refine HGq.out.mono ?_; rintro e w2 ⟨v, rfl, ho, hg⟩
      have HG2 := Lib.hid (Gr.trans HG.out hg)
      have HO := Lib.hid (ho.low HG.out.size)
      clear ho hg HG HGq
      go_wp2
      go_loopw [6, 27] (fun ow i wr => ∃ k : Nat, i = .int .i64 k ∧ k ≤ m ∧ Hid (Own shG w.heap.size wr ow (P.take k).flatten) ∧ Hid (Gr w wr)) (fun _ i _ => m - (intOf i).toNat)
      case atStart => exact ⟨0, rfl, by omega, Lib.hid (by simpa using HO.out), HG2⟩
      case round =>
        obtain ⟨k, rfl, hk, HO, HG⟩ := hrel
        by_cases hlt : k < m
        · have hkP : k < P.length := by rw [HM.out]; exact hlt
          obtain ⟨a, c, c0, hy, hc⟩ := HP.out.gr HG.out k hkP
          have HF := Lib.hid (flat_nxt hkP)
          have hl1 := HL.out (k + 1)
          rw [HF.out, List.length_append] at hl1
          generalize (P.take k).flatten = xs at *
          generalize P[k] = ys at *
          have HY := Lib.hid hy
          have HC := Lib.hid hc
          clear hy hc
          go_wp2_with (at_builtin; refine join_s shG rfl _ _ rfl _ xs rfl HO.out HG.out.size a ys c rfl HY.out HC.out (by omega) ?_; rintro v5 w5 HO5 hg5 -; have HG5 := Lib.hid (Below.trans HG.out hg5); clear hg5)
          go_roundw
          case rel => exact ⟨k + 1, by go_num, by omega, Lib.hid (by rw [HF.out]; exact HO5.out), HG5⟩
          case measure => simp [intOf]; omega
        · have hk2 : k = P.length := by rw [HM.out]; omega
          have ho := HO.out
          rw [hk2, List.take_length] at ho
          have HOe := Lib.hid ho
          clear HO ho hk2
          go_wp2
          go_ret
          exact ⟨_, rfl, HOe.out, HG.out⟩
end Go.Proofs.Ytgjlcmheipmmlaa
