/- Sets of channels: the iterator over the channels of ranges. -/
import Derived.Test.YtjideokeokmbaaaGreatDoorRaB
import Derived.RangeFuncNested
import Derived.RangeFuncBound
import Derived.RangeFuncCalls
import Derived.RangeFuncLeaves
import Derived.Shelf.Abstract
import Derived.Shelf.RegionOpen
import Derived.WalkKit
import Derived.OwnWalkIn
import Derived.TacticsInMore
import Derived.LoopNIn
import Derived.LoopIn
set_option linter.unusedVariables false
set_option linter.unusedSimpArgs false
namespace Go.Proofs.YtjideokeokmbaaaGreatDoor.Z
open Go
/-- the channels of a range, and of ranges -/
def runP (f : Int) (n : Nat) : List Int := (List.range n).map fun i : Nat => f + i
def runL (r : Int × Int) : List Int := runP r.1 (r.2 + 1 - r.1).toNat
def chans (R : List (Int × Int)) : List Int := R.flatMap runL
theorem runP_succ (f : Int) (n : Nat) : runP f (n + 1) = runP f n ++ [f + n] := by simp [runP, List.range_succ]
theorem runP_len (f : Int) (n : Nat) : (runP f n).length = n := by simp [runP]
theorem chans_take {R : List (Int × Int)} {j : Nat} (h : j < R.length) : chans (R.take (j + 1)) = chans (R.take j) ++ runL R[j] := by
  unfold chans; rw [List.take_succ_eq_append_getElem h, List.flatMap_append]; simp
theorem chans_at {R : List (Int × Int)} {j : Nat} (h : j < R.length) : chans R = chans (R.take j) ++ (runL R[j] ++ chans (R.drop (j + 1))) := by
  conv => lhs; rw [← List.take_append_drop j R, List.drop_eq_getElem_cons h]
  unfold chans; rw [List.flatMap_append, List.flatMap_cons]
theorem runP_pre (f : Int) {i n : Nat} (h : i ≤ n) : runP f i <+: runP f n := by
  unfold runP
  exact (show List.range i <+: List.range n from by
    rw [List.prefix_iff_eq_take]; simp [List.take_range, Nat.min_eq_left h]).map _
theorem chans_pre {R : List (Int × Int)} {j i : Nat} (h : j < R.length) (hi : i ≤ (R[j].2 + 1 - R[j].1).toNat) : chans (R.take j) ++ runP R[j].1 i <+: chans R := by
  rw [chans_at h]
  obtain ⟨t, ht⟩ := runP_pre R[j].1 hi
  exact ⟨t ++ chans (R.drop (j + 1)), by unfold runL; rw [← ht]; simp⟩
theorem chans_lt {R : List (Int × Int)} {j i : Nat} (h : j < R.length) (hi : i < (R[j].2 + 1 - R[j].1).toNat) : (chans (R.take j) ++ runP R[j].1 i).length < (chans R).length := by
  have := (chans_pre h (i := i + 1) (by omega)).length_le
  rw [runP_succ] at this
  simp only [List.length_append, List.length_cons, List.length_nil, runP_len] at this ⊢
  omega
end Go.Proofs.YtjideokeokmbaaaGreatDoor.Z
namespace Go.Proofs.YtjideokeokmbaaaGreatDoor
open Go.RowKit Go.Shelf
open Z
attribute [local go_sem] Oper.semAt_some

/-- all cells lie as they lay, but those of one block -/
def KC (mb : Nat) (W W' : World) : Prop := W.heap.size ≤ W'.heap.size ∧ ∀ k (c : Obj), k ≠ mb → W.heap[k]? = some c → c.isCells = true → W'.heap[k]? = some c
theorem KC.refl (mb : Nat) (W : World) : KC mb W W := ⟨Nat.le_refl _, fun _ _ _ h _ => h⟩
theorem KC.trans {mb : Nat} {A B C : World} (h : KC mb A B) (k : KC mb B C) : KC mb A C := ⟨Nat.le_trans h.1 k.1, fun j c hj hc hx => k.2 j c hj (h.2 j c hj hc hx) hx⟩
theorem KC.put {mb : Nat} (W : World) (l : Nat) (o o' : Obj) (h : W.heap[l]? = some o) (ho : o.isCells = false) : KC mb W (W.putObj l o') :=
  ⟨(grownBy_putObj' W l o').size, fun k c _ hc hx => (World.putObj_heap_other (by rintro rfl; rw [h] at hc; cases hc; rw [ho] at hx; cases hx)).trans hc⟩
theorem KC.set {mb o : Nat} (W : World) (v : Value) : KC mb W (W.setCell ⟨mb, o, none⟩ v) :=
  ⟨by rw [World.size_setCell]; exact Nat.le_refl _, fun k _ hk hc _ => (Below.heap_setCell W _ v k hk).trans hc⟩
theorem KC.cell {mb b o : Nat} {v : Value} {W W' : World} (h : KC mb W W') (hb : b ≠ mb) (hc : W.cell? ⟨b, o, none⟩ = some v) : W'.cell? ⟨b, o, none⟩ = some v := by
  unfold World.cell? at hc ⊢
  dsimp only at hc ⊢
  split at hc
  · rename_i c e f he
    rw [h.2 b _ hb he rfl]; exact hc
  · cases hc
theorem KC.frozen {mb b o o' : Nat} {v : Value} {W W' : World} (h : KC mb W W') (hb : b ≠ mb) (hc : W.cell? ⟨b, o', none⟩ = some v) : W'.frozen? ⟨b, o, none⟩ = W.frozen? ⟨b, o, none⟩ := by
  unfold World.cell? at hc
  unfold World.frozen?
  dsimp only at hc ⊢
  split at hc
  · rename_i c e f he
    rw [h.2 b _ hb he rfl, he]
  · cases hc
theorem RB.kc {mb n : Nat} {f t : Int} {W W' : World} (h : RB W n f t) (hk : KC mb W W') (hn : n ≠ mb) : RB W' n f t :=
  ⟨hk.cell hn h.c0, hk.cell hn h.c1, (hk.frozen hn h.c0).trans h.f0, (hk.frozen hn h.c0).trans h.f1⟩
/-- a pair laid in a block of its own -/
theorem gb_pair (W : World) (o : Obj) (f t : Value) : W.grownBy (((W.alloc o).setCell ⟨W.heap.size, 0, none⟩ f).setCell ⟨W.heap.size, 1, none⟩ t) none :=
  ⟨rfl, rfl, rfl, by rw [World.size_setCell, World.size_setCell, World.size_alloc]; omega,
    fun k hk _ => (Below.heap_setCell _ _ _ k (show k ≠ W.heap.size by omega)).trans ((Below.heap_setCell _ _ _ k (show k ≠ W.heap.size by omega)).trans (Below.heap_alloc W o k hk))⟩
theorem KC.of_gb {mb : Nat} {W W' : World} (h : W.grownBy W' none) : KC mb W W' :=
  ⟨h.size, fun k c _ hc _ => (h.block k (Array.getElem?_eq_some_iff.1 hc).1 (by simp)).trans hc⟩
set_option maxRecDepth 100000 in
set_option maxHeartbeats 2000000 in
theorem ra_chans1 (F : Fence) (n : Nat) (hf : F.fn 35) (hro : F.round = none) (hn : 1 ≤ n) (l Bs mb b off cap : Nat) (R : List (Int × Int)) (hlen : R.length ≤ 1000000)
    (hlim : ∀ r ∈ R, (-1000000 ≤ r.1 ∧ r.1 ≤ 1000000) ∧ -1000000 ≤ r.2 ∧ r.2 ≤ 1000000) (J Jx : List Int → World → Prop) (W : World) (hJa : AbidesFrom W.heap.size J) (hbs : Bs ≠ mb) (hbm : b ≠ mb) (hmb : mb < W.heap.size)
    (hY : ∀ pre x W, J pre W → pre ++ [x] <+: chans R → YieldAt F (n - 1) Tryz.prog l #[.int .i64 x] W fun e W' =>
      (e = .returned (.bool true) ∧ J (pre ++ [x]) W' ∧ KC mb W W') ∨ (e = .returned (.bool false) ∧ Jx (pre ++ [x]) W'))
    (hBs : W.cell? ⟨Bs, 0, none⟩ = some (.slice (some ⟨b, off, none⟩) R.length cap))
    (hc : ∀ j (h : j < R.length), W.cell? ⟨b, off + j * 2, none⟩ = some (.int .i64 R[j].1) ∧ W.cell? ⟨b, off + j * 2 + 1, none⟩ = some (.int .i64 R[j].2)) (h0 : J [] W) :
    CallsIn F n Tryz.prog 35 #[.func (.yield l) #[] #[], .pointer (some ⟨Bs, 0, none⟩)] W fun e W' => (∃ v, e = .returned v) ∧
      ((∃ ys, ys = chans R ∧ J ys W') ∨ (∃ pre, pre <+: chans R ∧ Jx pre W')) := by
  have HC := Lib.hid hc
  have HL := Lib.hid hlim
  have HY := Lib.hid hY
  have HJa := Lib.hid hJa
  have H0 := Lib.hid h0
  clear hc hlim hY hJa h0
  obtain ⟨len, hlenE⟩ : ∃ len, R.length = len := ⟨_, rfl⟩
  have HE := Lib.hid hlenE
  rw [hlenE] at hBs hlen
  clear hlenE
  refine callsIn_of_wp Tryz.func35 rfl hf ?_ hro
  simp only [Tryz.ntmps35, List.size_toArray, List.length_cons, List.length_nil, Nat.reduceAdd, Nat.reduceSub, Array.replicate_succ, Array.replicate_zero, List.push_toArray, List.append_toArray, List.nil_append, List.cons_append]
  gi_wp2
  gi_loopw [8] (fun i wr => ∃ j : Nat, j ≤ len ∧ i = .int .i64 (j : Nat) ∧ Hid (J (chans (R.take j)) wr) ∧ Hid (KC mb W wr)) (fun i _ => len - (intOf i).toNat)
  case atStart => exact ⟨0, Nat.zero_le _, rfl, Lib.hid (by simpa [chans] using H0.out), Lib.hid (KC.refl mb W)⟩
  case round =>
    obtain ⟨j, hj, rfl, HJ, HK⟩ := hrel
    by_cases hlt : j < len
    · have hltR : j < R.length := by rw [HE.out]; exact hlt
      have d0 := HK.out.cell hbm (HC.out j hltR).1
      have d1 := HK.out.cell hbm (HC.out j hltR).2
      have hlm := HL.out R[j] (List.getElem_mem hltR)
      have HS := Lib.hid (chans_take hltR)
      have HP := Lib.hid (fun i => chans_pre hltR (i := i))
      have HT := Lib.hid (fun i => chans_lt hltR (i := i))
      have hmw : mb < wr.heap.size := by have := HK.out.1; omega
      unfold runL at HS
      obtain ⟨⟨f, t⟩, hft⟩ : ∃ r, R[j] = r := ⟨_, rfl⟩
      rw [hft] at d0 d1 hlm HS HP HT
      simp only at d0 d1 hlm HS HP HT
      obtain ⟨⟨hf0, hf1⟩, ht0, ht1⟩ := hlm
      have HRB := Lib.hid (RB.new wr f t 37)
      have HGB := Lib.hid (World.grownBy_alloc wr (.cells #[.int .i64 f, .int .i64 t] 37) none)
      obtain ⟨k0, k1, -, -⟩ := id (RB.new wr 0 0 37)
      clear hft
      obtain ⟨N, hN⟩ : ∃ N, (t + 1 - f).toNat = N := ⟨_, rfl⟩
      rw [hN] at HS HP HT
      obtain ⟨n0, hn0⟩ : ∃ n0, wr.heap.size = n0 := ⟨_, rfl⟩
      have hnm : n0 ≠ mb := by omega
      have HJ2 : Hid (J (chans (R.take j)) _) := Lib.hid (HJa.out _ _ _ none HJ.out HGB.out (fun r e => by cases e))
      have HK2 : Hid (KC mb W _) := Lib.hid (HK.out.trans (KC.of_gb HGB.out))
      clear HGB HJ HK
      rw [hn0] at HRB
      gi_wp2
      (try simp only [hn0])
      generalize wr.alloc (.cells #[.int .i64 f, .int .i64 t] 37) = w2 at *
      clear k0 k1
      gi_loopw [5] (fun p wx => ∃ i : Nat, i ≤ N ∧ p = .int .i64 (f + (i : Nat)) ∧ Hid (J (chans (R.take j) ++ runP f i) wx) ∧ Hid (KC mb W wx) ∧ Hid (RB wx n0 f t)) (fun p _ => (t + 1 - intOf p).toNat)
      case atStart => exact ⟨0, Nat.zero_le _, by simp, Lib.hid (by simpa [runP] using HJ2.out), HK2, HRB⟩
      case round =>
        rename_i wy
        obtain ⟨i, hi, rfl, HJ, HK, HB⟩ := hrel
        obtain ⟨k0, k1, kf0, kf1⟩ := id HB.out
        by_cases hle : f + i ≤ t
        · obtain ⟨fn, tmps, assign, body, hy, hR⟩ := HY.out _ (f + i) _ HJ.out (by rw [List.append_assoc, ← runP_succ]; exact HP.out (i + 1) (by omega))
          gi_wp2
          refine hR.mono ?_
          rintro e W3 (⟨rfl, hJ3, hk3⟩ | ⟨rfl, hJx3⟩)
          · have HJ3 := Lib.hid hJ3
            have HK3 := Lib.hid (HK.out.trans hk3)
            have HB3 := Lib.hid (HB.out.kc hk3 hnm)
            clear hJ3 hk3 hR hy HJ HK HB k0 k1 kf0 kf1
            gi_wp2
            go_roundw
            case rel => exact ⟨i + 1, by omega, by simp; omega, Lib.hid (by rw [runP_succ, ← List.append_assoc]; exact HJ3.out), HK3, HB3⟩
            case measure => simp [intOf]; omega
          · have HJ3 := Lib.hid hJx3
            clear hJx3 hR hy
            gi_wp2
            refine bodyPost_ret (results_none rfl _ _ _) rfl ?_
            refine ⟨⟨_, rfl⟩, .inr ⟨_, HP.out (i + 1) (by omega), ?_⟩⟩
            rw [runP_succ, ← List.append_assoc]; exact HJ3.out
        · have hiN : i = N := by omega
          subst hiN
          gi_wp2
          go_roundw
          case rel => exact ⟨j + 1, by omega, by go_num, Lib.hid (by rw [HS.out]; exact HJ.out), HK⟩
          case measure => simp [intOf]; omega
    · have hjl : j = len := by omega
      subst hjl
      have hJ : J (chans R) wr := by have := HJ.out; rwa [← HE.out, List.take_length] at this
      have HJ3 := Lib.hid hJ
      clear hJ
      gi_wp2
      go_end0
      exact ⟨⟨_, rfl⟩, .inl ⟨_, rfl, HJ3.out⟩⟩
end Go.Proofs.YtjideokeokmbaaaGreatDoor
