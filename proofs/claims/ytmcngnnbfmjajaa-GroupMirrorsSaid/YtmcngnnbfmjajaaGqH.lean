/- Law 14: slices.Values, Collect and Sorted of ints. -/
import Derived.Test.YtmcngnnbfmjajaaGpR
import Derived.RangeFuncBox
import Derived.RangeFuncFrom
import Derived.RangeFuncKeeps
import Derived.RangeFuncLeaves
import Derived.Maps.AppendAt
import Derived.Shelf.RegionOpen
import Derived.OrdersIn
import Derived.Stop.RegionWithIn
set_option linter.unusedVariables false
set_option linter.unusedSimpArgs false
namespace Go.Proofs.Ytmcngnnbfmjajaa
open Go.RowKit Go.Shelf Go.Sort
open Z
attribute [local go_sem] Oper.semAt_some
/-- all cells below a mark lie as they lay -/
def KM (mk : Nat) (W W' : World) : Prop := W.heap.size ≤ W'.heap.size ∧ ∀ k c e f, W.heap[k]? = some (Obj.cells c e f) → k < mk → W'.heap[k]? = some (Obj.cells c e f)
theorem KM.refl (mk : Nat) (W : World) : KM mk W W := ⟨Nat.le_refl _, fun _ _ _ _ h _ => h⟩
theorem KM.trans {mk : Nat} {A B C : World} (h : KM mk A B) (k : KM mk B C) : KM mk A C := ⟨Nat.le_trans h.1 k.1, fun j c e f hc hx => k.2 j c e f (h.2 j c e f hc hx) hx⟩
theorem KM.put {mk : Nat} (W : World) (l : Nat) (o o' : Obj) (h : W.heap[l]? = some o) (ho : o.isCells = false) : KM mk W (W.putObj l o') :=
  ⟨(grownBy_putObj' W l o').size, fun k c e f hc _ => (World.putObj_heap_other (by rintro rfl; rw [h] at hc; cases hc; cases ho)).trans hc⟩
theorem KM.of_gb {mk : Nat} {W W' : World} (h : W.grownBy W' none) : KM mk W W' :=
  ⟨h.size, fun k c e f hc _ => (h.block k (Array.getElem?_eq_some_iff.1 hc).1 (by simp)).trans hc⟩
theorem KM.cell {mk b o : Nat} {v : Value} {W W' : World} (h : KM mk W W') (hb : b < mk) (hc : W.cell? ⟨b, o, none⟩ = some v) : W'.cell? ⟨b, o, none⟩ = some v := by
  unfold World.cell? at hc ⊢
  dsimp only at hc ⊢
  split at hc
  · rename_i c e f he
    rw [h.2 b _ _ _ he hb]; exact hc
  · cases hc
theorem KM.appended {W w1 : World} {mk B : Nat} {t e : TypeId} {size : Nat} {v v' : Value} {k : Nat} {xs : List Value} {tmp : Obj}
    (hv : Boxed W B t v) (hrow : W.ownsRow mk e size v k xs) (hB : mk ≤ B) (hgrow : (W.alloc tmp).grownBy w1 v.ownBlock) :
    KM mk W (w1.setCell ⟨B, 0, none⟩ v') := by
  refine ⟨by rw [World.size_setCell]; exact Nat.le_trans (by simp) hgrow.size, fun j c e' f hc hx => ?_⟩
  have hj : j < W.heap.size := (Array.getElem?_eq_some_iff.1 hc).1
  have h1 : (W.alloc tmp).heap[j]? = some (.cells c e' f) := (Below.heap_alloc W tmp j hj).trans hc
  have h2 : w1.heap[j]? = some (.cells c e' f) := by
    refine (hgrow.block j (by simp; omega) ?_).trans h1
    rcases hrow.2 with ⟨rfl, _⟩ | ⟨g, cap, cur, rfl, hg, hgb, _⟩
    · simp [Value.ownBlock]
    · intro e2
      obtain rfl : j = g := by simpa [Value.ownBlock] using e2
      omega
  refine (Below.heap_setCell w1 _ v' j (fun e2 => ?_)).trans h2
  obtain rfl : j = B := e2
  omega
set_option maxRecDepth 100000 in
set_option maxHeartbeats 2000000 in
theorem sl_values1 (F : Fence) (n : Nat) (hf : F.fn 59) (hro : F.round = none) (hn : 1 ≤ n) (l Bs mk cap : Nat) (a : Option Addr) (L : List Int) (hlen : L.length ≤ 1000000)
    (J Jx : List Int → World → Prop) (W : World) (hbm : 0 < L.length → ∀ b o, a = some ⟨b, o, none⟩ → b < mk)
    (hY : ∀ pre x W, J pre W → pre ++ [x] <+: L → YieldAt F (n - 1) Try.prog l #[.int .i64 x] W fun e W' =>
      (e = .returned (.bool true) ∧ J (pre ++ [x]) W' ∧ KM mk W W') ∨ (e = .returned (.bool false) ∧ Jx (pre ++ [x]) W'))
    (hBs : W.cell? ⟨Bs, 0, none⟩ = some (.slice a L.length cap)) (hc : RdI W a L) (h0 : J [] W) :
    CallsIn F n Try.prog 59 #[.func (.yield l) #[] #[], .pointer (some ⟨Bs, 0, none⟩)] W fun e W' => (∃ v, e = .returned v) ∧
      ((∃ ys, ys = L ∧ J ys W') ∨ (∃ pre, pre <+: L ∧ Jx pre W')) := by
  have HC := Lib.hid hc
  have HY := Lib.hid hY
  have HBM := Lib.hid hbm
  have H0 := Lib.hid h0
  clear hc hY h0 hbm
  obtain ⟨len, hlenE⟩ : ∃ len, L.length = len := ⟨_, rfl⟩
  have HE := Lib.hid hlenE
  rw [hlenE] at hBs hlen
  clear hlenE
  refine callsIn_of_wp Try.func59 rfl hf ?_ hro
  simp only [Try.ntmps59, List.size_toArray, List.length_cons, List.length_nil, Nat.reduceAdd, Nat.reduceSub, Array.replicate_succ, Array.replicate_zero, List.push_toArray, List.append_toArray, List.nil_append, List.cons_append]
  gi_wp2
  gi_loopw [7] (fun i wr => ∃ j : Nat, j ≤ len ∧ i = .int .i64 (j : Nat) ∧ Hid (J (L.take j) wr) ∧ Hid (KM mk W wr)) (fun i _ => len - (intOf i).toNat)
  case atStart => exact ⟨0, Nat.zero_le _, rfl, Lib.hid (by simpa using H0.out), Lib.hid (KM.refl mk W)⟩
  case round =>
    obtain ⟨j, hj, rfl, HJ, HK⟩ := hrel
    by_cases hlt : j < len
    · have hltR : j < L.length := by rw [HE.out]; exact hlt
      obtain ⟨b, o, rfl, d0⟩ := HC.out j hltR
      have d0 := HK.out.cell (HBM.out (by omega) b o rfl) d0
      have HS := Lib.hid (show L.take (j + 1) = L.take j ++ [L[j]] from List.take_succ_eq_append_getElem hltR)
      have HP := Lib.hid (show L.take j ++ [L[j]] <+: L by rw [← HS.out]; exact List.take_prefix _ _)
      generalize L[j] = x at *
      obtain ⟨fn, tmps, assign, body, hy, hR⟩ := HY.out _ x _ HJ.out HP.out
      gi_wp2
      refine hR.mono ?_
      rintro e W3 (⟨rfl, hJ3, hk3⟩ | ⟨rfl, hJx3⟩)
      · have HJ3 := Lib.hid hJ3
        have HK3 := Lib.hid (HK.out.trans hk3)
        clear hJ3 hk3 hR hy HJ HK d0
        gi_wp2
        go_roundw
        case rel => exact ⟨j + 1, by omega, by go_num, Lib.hid (by rw [HS.out]; exact HJ3.out), HK3⟩
        case measure => simp [intOf]; omega
      · have HJ3 := Lib.hid hJx3
        clear hJx3 hR hy d0
        gi_wp2
        refine bodyPost_ret (results_none rfl _ _ _) rfl ?_
        exact ⟨⟨_, rfl⟩, .inr ⟨_, HP.out, HJ3.out⟩⟩
    · have hjl : j = len := by omega
      subst hjl
      have hJ : J L wr := by have := HJ.out; rwa [← HE.out, List.take_length] at this
      have HJ3 := Lib.hid hJ
      clear hJ
      gi_wp2
      go_end0
      exact ⟨⟨_, rfl⟩, .inl ⟨_, rfl, HJ3.out⟩⟩
theorem sl_values_stops (F : Fence) (n : Nat) (hf : F.fn 59) (hro : F.round = none) (hn : 1 ≤ n) (Bs mk : Nat) (a : Option Addr) (cap : Nat) (L : List Int) (hlen : L.length ≤ 1000000)
    (w : World) (hBs : w.cell? ⟨Bs, 0, none⟩ = some (.slice a L.length cap)) (hR : RdI w a L) (hab : 0 < L.length → ∀ b o, a = some ⟨b, o, none⟩ → b < mk) :
    SeqStopsK F n Try.prog 59 #[.pointer (some ⟨Bs, 0, none⟩)] (fun x : Int => #[Value.int .i64 x]) (KM mk) (fun ys => ys = L) (fun pre => pre <+: L) L.length w := by
  intro l J Jx W hW hJ hJx hY h0
  have hBs' := (hW.cell (p := ⟨Bs, 0, none⟩) (cellLt hBs)).trans hBs
  refine (sl_values1 F n hf hro hn l Bs mk cap a L hlen J Jx W hab ?_ hBs' (fun k hk => ?_) h0).mono ?_
  · rintro pre x W1 hj hp
    have hlt : pre.length < L.length := by have := hp.length_le; simp at this; omega
    exact hY pre x W1 hj hlt
  · obtain ⟨b, o, e, hc⟩ := hR k hk
    exact ⟨b, o, e, (hW.cell (p := ⟨b, o + k, none⟩) (cellLt hc)).trans hc⟩
  · rintro e W' ⟨he, ⟨ys, rfl, hj⟩ | ⟨pre, hp, hj⟩⟩
    · exact ⟨he, .inl ⟨_, rfl, hj⟩⟩
    · exact ⟨he, .inr ⟨pre, hp, hj⟩⟩
theorem iv_snoc (pre : List Int) (x : Int) : iv (pre ++ [x]) = iv pre ++ [.int .i64 x] := by simp [iv]
set_option maxRecDepth 100000 in
set_option maxHeartbeats 2000000 in
theorem sl_AppendSeq (Bs : Nat) (a : Option Addr) (cap : Nat) (L : List Int) (hlen : L.length ≤ 1000000) (w : World)
    (hBs : w.cell? ⟨Bs, 0, none⟩ = some (.slice a L.length cap)) (hR : RdI w a L) (hab : 0 < L.length → ∀ b o, a = some ⟨b, o, none⟩ → b < w.heap.size) :
    Calls Try.prog 68 #[.slice none 0 0, .func (.func 59) #[] #[.pointer (some ⟨Bs, 0, none⟩)]] w fun e w' => ∃ v, e = .returned v ∧ OwnI w.heap.size w' v L ∧ Gr w w' := by
  obtain ⟨i0, hi, hz0, hz1, hz2⟩ := info_parts Try.infoI
  have hbl := cellLt hBs
  refine (callsIn_wide (n := 5)).1 ?_
  have hro : Fence.wide.round = none := rfl
  refine callsIn_of_wp_marks Try.func68 rfl trivial ?_ hro
  simp only [Try.ntmps68, List.size_toArray, List.length_cons, List.length_nil, Nat.reduceAdd, Nat.reduceSub, Array.replicate_succ, Array.replicate_zero, List.push_toArray, List.append_toArray, List.nil_append, List.cons_append]
  have HR := Lib.hid hR
  have HC := Lib.hid hBs
  have HA := Lib.hid hab
  clear hR hBs hab
  gi_wp2
  have bO := Boxed.new w 23 (.slice none 0 0)
  have hB0 : Below w.heap.size w (w.alloc (.cells #[.slice none 0 0] 23)) := (Below.refl _ w).alloc (Nat.le_refl _) _
  have hgb := World.grownBy_alloc w (.cells #[.slice none 0 0] 23) none
  refine wpIn_rangeFunc_ownF hro (by omega) (gf := 59) (lb := #[.pointer (some ⟨Bs, 0, none⟩)]) rfl trivial (enters_of Try.func59 (by kernel_rfl) rfl)
    (sl_values_stops Fence.wide 4 trivial rfl (by omega) Bs w.heap.size a cap L hlen _ (cell_kept HC.out hgb (fun r e => by cases e)) (HR.out.gr hB0) HA.out)
    KM.trans (fun W l o o' _ h ho _ => KM.put W l o o' h ho) (Below.refl _ _) (fun _ => rfl)
    (fun pre W => (∃ v, Boxed W w.heap.size 23 v ∧ W.ownsRow w.heap.size 3 1 v pre.length (iv pre) ∧ True) ∧ Below w.heap.size w W)
    (fun _ _ _ => False)
    (OwnFrom.and (Own.from (holdsRow_own w.heap.size w.heap.size 23 3 1 (fun pre : List Int => pre.length) iv (fun _ _ => True)) _) (ownFrom_below (Nat.le_refl _) (by simp)))
    (fun _ _ _ _ _ hs _ _ => hs)
    ⟨⟨_, bO, World.ownsRow_nil _ _ _ _, trivial⟩, hB0⟩
    (fun x => { tmps := (#[.slice none 0 0, .func (.func 59) #[] #[.pointer (some ⟨Bs, 0, none⟩)], .pointer (some ⟨w.heap.size, 0, none⟩), undef, .slice none 0 0, .int .i64 x, .func (.func 59) #[] #[.pointer (some ⟨Bs, 0, none⟩)], .int .i64 x, undef, undef, undef, undef, undef]), defers := [] }) ?assign ?body ?done ?stop
  case assign =>
    intro l x W K hK
    gi_wp2
    exact hK
  case body =>
    rintro l pre x W ⟨⟨v, hv, hrow, -⟩, hB⟩ hlt
    have hc := hv.cell
    have hb : pre.length < 1000000 := Nat.lt_of_lt_of_le hlt hlen
    gi_wp2_with (gi_at_builtin; refine wpListIn_append_own _ rfl _ _ 23 rfl w.heap.size 3 i0 (.int .i64 0) 1 8 Try.underlying23 hi hz0 hz1 hz2 rfl (by decide) _ _ _ rfl (hrow.alloc _) ⟨W.heap.size, 0, none⟩ 1 1 [.int .i64 x] rfl rfl (cell_one_new _ _ _) (by simp [Value.oneCell']) (by unfold maxLen; omega) (by omega) (by have := hB.size; simp; omega) ?_; intro v' w1 hown' hgrow _; obtain ⟨g', cap', rfl⟩ := ownsRow_succ hown'; obtain ⟨hv1, hv2, hr2, hk2, hb2⟩ := hv.appended (by decide) hrow hB.size (Nat.le_refl _) hown' hgrow; have hkt := KM.appended (v' := .slice (some ⟨g', 0, none⟩) (pre.length + 1) cap') hv hrow (Nat.le_refl _) hgrow; have hc1 := hv1.cell; have hf1 := hv1.frozen)
    exact ⟨hk2, hkt, ⟨_, hv2, by rw [List.length_append, iv_snoc]; exact ⟨hr2, trivial⟩⟩, hB.trans hb2⟩
  case done =>
    rintro D ys W hD hys ⟨⟨v, hv, hrow, -⟩, hB⟩ hK
    have hc := hv.cell
    gi_wp2
    refine ⟨by simp, .inl ⟨_, _, rfl, run_takeDeferred hK, ?_⟩⟩
    have hgp := grownBy_putObj' W D (.deferred none)
    refine ⟨_, results_tmp rfl _ _ _, v, rfl, ?_, Below.grown hB hgp hB.size (fun k e => by cases e; simp at hD; omega)⟩
    have := ownsRow_putObj hrow (.deferred none) hK rfl
    show World.ownsRow _ _ _ _ _ _ _
    rw [← hys]
    exact this
  case stop =>
    rintro D c pre W _ _ h _
    exact h.elim
set_option maxRecDepth 100000 in
set_option maxHeartbeats 1000000 in
theorem sl_Collect (Bs : Nat) (a : Option Addr) (cap : Nat) (L : List Int) (hlen : L.length ≤ 1000000) (w : World)
    (hBs : w.cell? ⟨Bs, 0, none⟩ = some (.slice a L.length cap)) (hR : RdI w a L) (hab : 0 < L.length → ∀ b o, a = some ⟨b, o, none⟩ → b < w.heap.size) :
    Calls Try.prog 57 #[.func (.func 59) #[] #[.pointer (some ⟨Bs, 0, none⟩)]] w fun e w' => ∃ v, e = .returned v ∧ OwnI w.heap.size w' v L ∧ Gr w w' := by
  have C := Lib.hid (sl_AppendSeq Bs a cap L hlen w hBs hR hab)
  clear hBs hR hab
  go_enter Try.func57, Try.ntmps57
  go_wp2_with fail
  refine C.out.mono ?_; rintro e w2 ⟨v, rfl, ho, hg⟩
  have HO := Lib.hid ho
  have HG := Lib.hid hg
  clear ho hg C
  go_wp2
  go_ret
  exact ⟨_, rfl, HO.out, HG.out⟩
/-- the sorted list -/
def srt (l : List Int) : List Int := l.mergeSort fun x y => decide (x ≤ y)
theorem srt_len (l : List Int) : (srt l).length = l.length := List.length_mergeSort ..
theorem sl_Sort {B : Nat} {v : Value} {l : List Int} (w : World) (ho : OwnI B w v l) (hl : l.length ≤ 1000000) :
    Calls Try.prog 58 #[v] w fun e w' => e = .returned (.tuple #[]) ∧ OwnI B w' v (srt l) ∧ w.grownBy w' v.ownBlock := by
  by_cases h0 : l = []
  · subst h0
    obtain ⟨a, cap, rfl, -⟩ := ho.shape
    refine (Try.slices_Sort_int_none a cap w).mono ?_
    rintro e w' ⟨rfl, rfl⟩
    exact ⟨rfl, by rw [show srt [] = [] by simp [srt]]; exact ho, rfl, rfl, rfl, Nat.le_refl _, fun _ _ _ => rfl⟩
  · rcases id ho.2 with ⟨-, h1⟩ | ⟨g, cap, cur, rfl, hb, hg, hn1, hn2, hs, ht⟩
    · exact absurd (List.eq_nil_of_length_eq_zero h1) h0
    · rw [Nat.mul_one] at ht
      refine (Try.slices_Sort_int g 0 cap l w (holds_of_blockI hg ht) (Array.getElem?_eq_some_iff.1 hg).1 (by omega)).mono ?_
      rintro e w' ⟨rfl, n, os, rfl⟩
      have h2 := ownsRow_sortedI (w := w) (base := B) (n := n) (os := os) (ss := l) (ts := srt l) (srt_len l) hb hg hn1 hn2 hs
      have h3 := grownBy_sortedI (w := w) (g := g) (n := n) (os := os) (srt l).toArray
      refine ⟨rfl, ?_, h3⟩
      show World.ownsRow _ _ _ _ _ _ _
      rw [srt_len]
      exact h2
set_option maxRecDepth 100000 in
set_option maxHeartbeats 1000000 in
theorem sl_Sorted (Bs : Nat) (a : Option Addr) (cap : Nat) (L : List Int) (hlen : L.length ≤ 1000000) (w : World)
    (hBs : w.cell? ⟨Bs, 0, none⟩ = some (.slice a L.length cap)) (hR : RdI w a L) (hab : 0 < L.length → ∀ b o, a = some ⟨b, o, none⟩ → b < w.heap.size) :
    Calls Try.prog 35 #[.func (.func 59) #[] #[.pointer (some ⟨Bs, 0, none⟩)]] w fun e w' => (∃ p c, e = .returned (.slice p L.length c) ∧ RdI w' p (srt L)) ∧ Gr w w' := by
  have C := Lib.hid (sl_Collect Bs a cap L hlen w hBs hR hab)
  clear hBs hR hab
  go_enter Try.func35, Try.ntmps35
  go_wp2_with fail
  refine C.out.mono ?_; rintro e w2 ⟨v, rfl, ho, hg⟩
  have HO := Lib.hid ho
  have HG := Lib.hid hg
  have HS := Lib.hid (sl_Sort w2 ho hlen)
  clear ho hg C
  go_wp2_with fail
  refine HS.out.mono ?_; rintro e w3 ⟨rfl, ho, hgr⟩
  have HG3 : Hid (Gr w w3) := Lib.hid (Below.grown HG.out hgr HG.out.size (fun k hk => (World.ownsRow.lt HO.out k hk).1))
  obtain ⟨p, c, rfl, hr, -⟩ := ho.shape
  have HR := Lib.hid hr
  rw [srt_len]
  clear ho hgr HS hr HO HG
  go_wp2
  go_ret
  exact ⟨⟨p, c, rfl, HR.out⟩, HG3.out⟩
end Go.Proofs.Ytmcngnnbfmjajaa
