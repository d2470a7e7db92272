/- RaOS: RaO, RaP, RaQ, RaR, RaS, joined. -/
import Derived.Test.YtjideokeokmbaaaGreatDoorRaN
import Derived.RangeFuncBox
import Derived.Maps.AppendAt
set_option linter.unusedVariables false
set_option linter.unusedSimpArgs false

/- Sets of channels: the program's Union, Minus, Common. -/
namespace Go.Proofs.YtjideokeokmbaaaGreatDoor
open Go.RowKit Go.Shelf
open Z
theorem ra_combine (fid : Nat) (hent : ∀ args w, (callFunc fid args).run Tryz.prog w = .ok (.enter fid args) w) (a b : Option Addr) (A B : List (Int × Int)) (ca cb : Nat) (w : World) (hA : RngAt w a A) (hB : RngAt w b B) (hca : a = none → ca = 0) (hcb : b = none → cb = 0) (hla : A.length ≤ 1000000) (hlb : B.length ≤ 1000000) (rem : Bool → Bool → Bool)
    (hpa : ∀ p o, a = some ⟨p, o, none⟩ → p < w.heap.size) (hpb : ∀ p o, b = some ⟨p, o, none⟩ → p < w.heap.size)
    (hrem : ∀ x y w, Calls Tryz.prog fid #[.bool x, .bool y] w fun e w' => e = .returned (.bool (rem x y)) ∧ w = w') :
    Calls Tryz.prog 19 #[.slice a A.length ca, .slice b B.length cb, .func (.func fid) #[] #[]] w fun e w' => ∃ v, e = .returned (.tuple #[v, .int .i64 (combR rem A B).2]) ∧ OwnR w.heap.size w' v (combR rem A B).1 ∧ Gr w w' := by
  by_cases h : checkR A = 0 ∧ checkR B = 0
  · have := ra_combine_ok fid hent a b A B ca cb w hA hB hca hcb hla hlb rem hpa hpb hrem h.1 h.2
    unfold combR
    rw [if_neg (by simp [h.1]), if_neg (by simp [h.2])]
    generalize setS (combG rem (inR A) (inR B) (chans [(1, 999)])) 1000 = S at *
    exact this
  · exact ra_combine_bad fid a b A B ca cb w hA hB hca hcb (by omega) (by omega) rem h
set_option maxRecDepth 100000 in
set_option maxHeartbeats 1000000 in
theorem ra_Union (a b : Option Addr) (A B : List (Int × Int)) (ca cb : Nat) (w : World) (hA : RngAt w a A) (hB : RngAt w b B) (hca : a = none → ca = 0) (hcb : b = none → cb = 0) (hla : A.length ≤ 1000000) (hlb : B.length ≤ 1000000)
    (hpa : ∀ p o, a = some ⟨p, o, none⟩ → p < w.heap.size) (hpb : ∀ p o, b = some ⟨p, o, none⟩ → p < w.heap.size) :
    Calls Tryz.prog 8 #[.slice a A.length ca, .slice b B.length cb] w fun e w' => ∃ v, e = .returned (.tuple #[v, .int .i64 (combR (fun x y => x || y) A B).2]) ∧ OwnR w.heap.size w' v (combR (fun x y => x || y) A B).1 ∧ Gr w w' := by
  have C := Lib.hid (ra_combine 20 (enters_of Tryz.func20 (by kernel_rfl) rfl) a b A B ca cb w hA hB hca hcb hla hlb (fun x y => x || y) hpa hpb (fun x y w => ra_union1 x y w))
  clear hA hB hca hcb hla hlb hpa hpb
  generalize combR (fun x y => x || y) A B = V at *
  generalize A.length = la at *
  generalize B.length = lb at *
  go_enter Tryz.func8, Tryz.ntmps8
  go_wp2_with fail
  refine C.out.mono ?_; rintro e w2 ⟨v, rfl, ho, hg⟩
  have HO := Lib.hid ho
  have HG := Lib.hid hg
  clear ho hg C
  go_wp2
  go_ret2
  exact ⟨v, rfl, HO.out, HG.out⟩
set_option maxRecDepth 100000 in
set_option maxHeartbeats 1000000 in
theorem ra_Minus (a b : Option Addr) (A B : List (Int × Int)) (ca cb : Nat) (w : World) (hA : RngAt w a A) (hB : RngAt w b B) (hca : a = none → ca = 0) (hcb : b = none → cb = 0) (hla : A.length ≤ 1000000) (hlb : B.length ≤ 1000000)
    (hpa : ∀ p o, a = some ⟨p, o, none⟩ → p < w.heap.size) (hpb : ∀ p o, b = some ⟨p, o, none⟩ → p < w.heap.size) :
    Calls Tryz.prog 12 #[.slice a A.length ca, .slice b B.length cb] w fun e w' => ∃ v, e = .returned (.tuple #[v, .int .i64 (combR (fun x y => x && !y) A B).2]) ∧ OwnR w.heap.size w' v (combR (fun x y => x && !y) A B).1 ∧ Gr w w' := by
  have C := Lib.hid (ra_combine 22 (enters_of Tryz.func22 (by kernel_rfl) rfl) a b A B ca cb w hA hB hca hcb hla hlb (fun x y => x && !y) hpa hpb (fun x y w => ra_minus1 x y w))
  clear hA hB hca hcb hla hlb hpa hpb
  generalize combR (fun x y => x && !y) A B = V at *
  generalize A.length = la at *
  generalize B.length = lb at *
  go_enter Tryz.func12, Tryz.ntmps12
  go_wp2_with fail
  refine C.out.mono ?_; rintro e w2 ⟨v, rfl, ho, hg⟩
  have HO := Lib.hid ho
  have HG := Lib.hid hg
  clear ho hg C
  go_wp2
  go_ret2
  exact ⟨v, rfl, HO.out, HG.out⟩
set_option maxRecDepth 100000 in
set_option maxHeartbeats 1000000 in
theorem ra_Common (a b : Option Addr) (A B : List (Int × Int)) (ca cb : Nat) (w : World) (hA : RngAt w a A) (hB : RngAt w b B) (hca : a = none → ca = 0) (hcb : b = none → cb = 0) (hla : A.length ≤ 1000000) (hlb : B.length ≤ 1000000)
    (hpa : ∀ p o, a = some ⟨p, o, none⟩ → p < w.heap.size) (hpb : ∀ p o, b = some ⟨p, o, none⟩ → p < w.heap.size) :
    Calls Tryz.prog 10 #[.slice a A.length ca, .slice b B.length cb] w fun e w' => ∃ v, e = .returned (.tuple #[v, .int .i64 (combR (fun x y => x && y) A B).2]) ∧ OwnR w.heap.size w' v (combR (fun x y => x && y) A B).1 ∧ Gr w w' := by
  have C := Lib.hid (ra_combine 21 (enters_of Tryz.func21 (by kernel_rfl) rfl) a b A B ca cb w hA hB hca hcb hla hlb (fun x y => x && y) hpa hpb (fun x y w => ra_common1 x y w))
  clear hA hB hca hcb hla hlb hpa hpb
  generalize combR (fun x y => x && y) A B = V at *
  generalize A.length = la at *
  generalize B.length = lb at *
  go_enter Tryz.func10, Tryz.ntmps10
  go_wp2_with fail
  refine C.out.mono ?_; rintro e w2 ⟨v, rfl, ho, hg⟩
  have HO := Lib.hid ho
  have HG := Lib.hid hg
  clear ho hg C
  go_wp2
  go_ret2
  exact ⟨v, rfl, HO.out, HG.out⟩
end Go.Proofs.YtjideokeokmbaaaGreatDoor

/- Sets of channels: the program's Count. -/
namespace Go.Proofs.YtjideokeokmbaaaGreatDoor.Z
open Go
def countR (R : List (Int × Int)) : Int × Int := if checkR R ≠ 0 then (0, checkR R) else (((chans R).length : Nat), 0)
theorem chans_len {R : List (Int × Int)} (h : ∀ r ∈ R, 1 ≤ r.1 ∧ r.1 ≤ r.2 ∧ r.2 ≤ 999) : (chans R).length ≤ 999 * R.length := by
  induction R with
  | nil => simp [chans]
  | cons r R ih =>
    have h1 := h r (List.mem_cons_self)
    have h2 := ih fun r hr => h r (List.mem_cons_of_mem _ hr)
    have h3 : (chans (r :: R)).length = (runL r).length + (chans R).length := by unfold chans; rw [List.flatMap_cons, List.length_append]
    have h4 : (runL r).length ≤ 999 := by unfold runL; rw [runP_len]; omega
    rw [h3, List.length_cons]; omega
end Go.Proofs.YtjideokeokmbaaaGreatDoor.Z
namespace Go.Proofs.YtjideokeokmbaaaGreatDoor
open Go.RowKit Go.Shelf
open Z
attribute [local go_sem] Oper.semAt_some
set_option maxRecDepth 100000 in
set_option maxHeartbeats 2000000 in
theorem ra_Count (a : Option Addr) (R : List (Int × Int)) (cap : Nat) (w : World) (hR : RngAt w a R) (hcap : a = none → cap = 0) (hlen : R.length ≤ 1000000) (hab : ∀ b o, a = some ⟨b, o, none⟩ → b < w.heap.size) :
    Calls Tryz.prog 14 #[.slice a R.length cap] w fun e w' => e = .returned (.tuple #[.int .i64 (countR R).1, .int .i64 (countR R).2]) ∧ Gr w w' := by
  have C := Lib.hid (ra_Check a R cap w hR hcap (by omega))
  by_cases h : checkR R = 0
  · rw [h] at C
    unfold countR
    rw [if_neg (by simp [h])]
    simp only
    have HL : Hid (∀ r ∈ R, 1 ≤ r.1 ∧ r.1 ≤ r.2 ∧ r.2 ≤ 999) := Lib.hid fun r hr => (isRg_iff r).1 (checkL_each h r hr)
    have HN := chans_len HL.out
    have HR := Lib.hid hR
    have HA := Lib.hid hab
    have HZ := Lib.hid hcap
    obtain ⟨len, hl⟩ : ∃ len, R.length = len := ⟨_, rfl⟩
    have HE := Lib.hid hl
    rw [hl] at hlen C HN ⊢
    clear hR hab hcap hl h
    refine (callsIn_wide (n := 5)).1 ?_
    have hro : Fence.wide.round = none := rfl
    refine callsIn_of_wp_marks Tryz.func14 rfl trivial ?_ hro
    simp only [Tryz.ntmps14, List.size_toArray, List.length_cons, List.length_nil, Nat.reduceAdd, Nat.reduceSub, Array.replicate_succ, Array.replicate_zero, List.push_toArray, List.append_toArray, List.nil_append, List.cons_append]
    gi_wp2
    refine ⟨trivial, (callsIn_wide.2 C.out).mono ?_⟩; rintro e w2 ⟨rfl, hg2⟩
    have HG2 := Lib.hid hg2
    clear hg2 C
    gi_wp2
    refine ⟨trivial, (ra_channels_in Fence.wide _ trivial rfl _ _ _ _).mono ?_⟩; rintro e w' ⟨rfl, rfl⟩
    gi_wp2
    obtain ⟨W0, hW0⟩ : ∃ W0, (w2.alloc (.cells #[.int .i64 0] 3)).alloc (.cells #[.slice a len cap] 22) = W0 := ⟨_, rfl⟩
    have hszW : W0.heap.size = w2.heap.size + 2 := by rw [← hW0]; simp
    have hgb : w2.grownBy W0 none := by rw [← hW0]; exact (World.grownBy_alloc w2 _ none).trans (World.grownBy_alloc _ _ none)
    have b0 : Boxed W0 w2.heap.size 3 (.int .i64 0) := by rw [← hW0]; exact (Boxed.new w2 _ _).alloc _
    have b1 : W0.cell? ⟨w2.heap.size + 1, 0, none⟩ = some (.slice a len cap) := by rw [← hW0, World.cell?_alloc_at _ _ _ _ (by simp)]; rfl
    have hgr : Gr w W0 := by rw [← hW0]; exact (HG2.out.alloc _).alloc _
    rw [hW0]
    have hw2 := HG2.out.size
    have HRW : Hid (RngAt W0 a R) := Lib.hid (HR.out.gr hgr)
    have HU0 : Hid (Upd w2.heap.size w W0) := Lib.hid (Upd.of_gr hgr)
    clear hW0 hgb hgr
    generalize w2.heap.size = n at *
    refine wpIn_rangeFunc_ownF hro (by omega) (gf := 35) (lb := #[.pointer (some ⟨n + 1, 0, none⟩)]) rfl trivial (enters_of Tryz.func35 (by kernel_rfl) rfl)
      (ra_chans_stops Fence.wide 4 trivial rfl (by omega) (n + 1) n a cap R HZ.out (by rw [HE.out]; exact hlen) HL.out W0 (by rw [HE.out]; exact b1) HRW.out (by omega) (fun p o h => by have := HA.out p o h; omega) (by omega))
      KC.trans (fun W l o o' _ h ho _ => KC.put W l o o' h ho) (Below.refl _ _) (fun _ => rfl)
      (fun pre W => Boxed W n 3 (.int .i64 (pre.length : Nat)) ∧ Upd n w W)
      (fun _ _ _ => False)
      (fun s A B row hs hg hr => ⟨hs.1.kept hg (fun e => by have := (hr _ e.symm).1; omega), hs.2.of_gb hg (fun r e => by have := (hr r e).1; omega)⟩)
      (fun _ _ _ _ _ hs _ _ => hs)
      ⟨b0, HU0.out⟩
      (fun x => { tmps := (#[.slice a len cap, undef, .int .i64 0, .int .i64 0, .int .i64 0, .pointer (some ⟨n, 0, none⟩), .slice a len cap, .int .i64 0, .int .i64 0, .bool false, undef, .slice a len cap, .func (.func 35) #[] #[.pointer (some ⟨n + 1, 0, none⟩)], .int .i64 x.1, undef, undef, undef]), defers := [] }) ?assign ?body ?done ?stop
    case assign =>
      intro l x W K hK
      gi_wp2
      have hc : ∀ A B : Act, A = B → K A W → K B W := by rintro _ _ rfl h; exact h
      refine hc _ _ ?_ hK
      simp
    case body =>
      rintro l pre x W ⟨hB, hU⟩ hlt
      have hb : pre.length < 999 * len := Nat.lt_of_lt_of_le hlt HN
      have k0 := hB.cell
      have k1 := hB.frozen
      have HB2 : Hid (Boxed (W.setCell ⟨n, 0, none⟩ (.int .i64 ((pre.length : Int) + 1))) n 3 (.int .i64 ((pre ++ [x]).length : Nat))) := Lib.hid (by
        have := hB.set (.int .i64 ((pre.length : Int) + 1))
        rw [List.length_append, List.length_singleton]; exact this)
      have HU2 := Lib.hid (hU.trans (Upd.set (b := n) (o := 0) W (.int .i64 ((pre.length : Int) + 1))))
      have HKO := Lib.hid (KeepsOthers.setCell W ⟨n, 0, none⟩ (.int .i64 ((pre.length : Int) + 1)))
      have HKC := Lib.hid (KC.set (mb := n) (o := 0) W (.int .i64 ((pre.length : Int) + 1)))
      clear hB hU hlt
      generalize pre.length = p at *
      gi_wp2
      exact ⟨HKO.out, HKC.out, HB2.out, HU2.out⟩
    case done =>
      rintro D ys W hD hys ⟨hB, hU⟩ hK
      have hl : ys.length = (chans R).length := by rw [← hys, List.length_map]
      rw [hl] at hB
      have k0 := hB.cell
      have HG4 := Lib.hid (hU.1 w (Gr.refl w) hw2)
      clear hB hU hys hl
      gi_wp2
      refine ⟨by simp, .inl ⟨_, _, rfl, run_takeDeferred hK, ?_⟩⟩
      have hgp := grownBy_putObj' W D (.deferred none)
      exact ⟨_, results_tmp2 rfl _ _ _, rfl, HG4.out.grown hgp HG4.out.size (fun k e => by cases e; omega)⟩
    case stop =>
      rintro D c pre W _ _ h _
      exact h.elim
  · unfold countR
    rw [if_pos h]
    simp only
    generalize R.length = len at *
    generalize checkR R = v at *
    have hv : (v == 0) = false := by rw [beq_eq_false_iff_ne]; exact h
    clear hR hab hcap
    go_enter Tryz.func14, Tryz.ntmps14
    go_wp2_with fail
    refine C.out.mono ?_; rintro e w2 ⟨rfl, hg2⟩
    have HG2 := Lib.hid hg2
    clear hg2
    go_wp2
    go_ret2
    exact ⟨rfl, HG2.out⟩
end Go.Proofs.YtjideokeokmbaaaGreatDoor

/- Sets of channels: the iterator over channels, where its rounds write rows of integers. -/
namespace Go.Proofs.YtjideokeokmbaaaGreatDoor
open Go.RowKit Go.Shelf
open Z
attribute [local go_sem] Oper.semAt_some
/-- all cells below a mark lie as they lay, and all ranges -/
def KT (mk : Nat) (W W' : World) : Prop := W.heap.size ≤ W'.heap.size ∧ ∀ k c e f, W.heap[k]? = some (Obj.cells c e f) → (k < mk ∨ e = 37) → W'.heap[k]? = some (Obj.cells c e f)
theorem KT.refl (mk : Nat) (W : World) : KT mk W W := ⟨Nat.le_refl _, fun _ _ _ _ h _ => h⟩
theorem KT.trans {mk : Nat} {A B C : World} (h : KT mk A B) (k : KT mk B C) : KT mk A C := ⟨Nat.le_trans h.1 k.1, fun j c e f hc hx => k.2 j c e f (h.2 j c e f hc hx) hx⟩
theorem KT.put {mk : Nat} (W : World) (l : Nat) (o o' : Obj) (h : W.heap[l]? = some o) (ho : o.isCells = false) : KT mk W (W.putObj l o') :=
  ⟨(grownBy_putObj' W l o').size, fun k c e f hc _ => (World.putObj_heap_other (by rintro rfl; rw [h] at hc; cases hc; cases ho)).trans hc⟩
theorem KT.of_gb {mk : Nat} {W W' : World} (h : W.grownBy W' none) : KT mk W W' :=
  ⟨h.size, fun k c e f hc _ => (h.block k (Array.getElem?_eq_some_iff.1 hc).1 (by simp)).trans hc⟩
theorem KT.cell {mk b o : Nat} {v : Value} {W W' : World} (h : KT mk W W') (hb : b < mk) (hc : W.cell? ⟨b, o, none⟩ = some v) : W'.cell? ⟨b, o, none⟩ = some v := by
  unfold World.cell? at hc ⊢
  dsimp only at hc ⊢
  split at hc
  · rename_i c e f he
    rw [h.2 b _ _ _ he (.inl hb)]; exact hc
  · cases hc
/-- a pair in a block of its own, with its type -/
def RBT (W : World) (n : Nat) (f t : Int) : Prop := W.heap[n]? = some (.cells #[.int .i64 f, .int .i64 t] 37 (0, 0))
theorem RBT.new (w : World) (f t : Int) : RBT (w.alloc (.cells #[.int .i64 f, .int .i64 t] 37)) w.heap.size f t := World.alloc_heap_new w _
theorem RBT.rb {w : World} {n : Nat} {f t : Int} (h : RBT w n f t) : RB w n f t := by
  unfold RBT at h
  exact ⟨by simp [World.cell?, h], by simp [World.cell?, h], by simp [World.frozen?, h], by simp [World.frozen?, h]⟩
theorem RBT.kt {mk : Nat} {w w' : World} {n : Nat} {f t : Int} (h : RBT w n f t) (hk : KT mk w w') : RBT w' n f t := hk.2 n _ _ _ h (.inr rfl)
set_option maxRecDepth 100000 in
set_option maxHeartbeats 2000000 in
theorem ra_chans1T (F : Fence) (n : Nat) (hf : F.fn 35) (hro : F.round = none) (hn : 1 ≤ n) (l Bs mk b off cap : Nat) (R : List (Int × Int)) (hlen : R.length ≤ 1000000)
    (hlim : ∀ r ∈ R, (-1000000 ≤ r.1 ∧ r.1 ≤ 1000000) ∧ -1000000 ≤ r.2 ∧ r.2 ≤ 1000000) (J Jx : List Int → World → Prop) (W : World) (hJa : AbidesFrom W.heap.size J) (hbm : b < mk)
    (hY : ∀ pre x W, J pre W → pre ++ [x] <+: chans R → YieldAt F (n - 1) Tryz.prog l #[.int .i64 x] W fun e W' =>
      (e = .returned (.bool true) ∧ J (pre ++ [x]) W' ∧ KT mk W W') ∨ (e = .returned (.bool false) ∧ Jx (pre ++ [x]) W'))
    (hBs : W.cell? ⟨Bs, 0, none⟩ = some (.slice (some ⟨b, off, none⟩) R.length cap))
    (hc : ∀ j (h : j < R.length), W.cell? ⟨b, off + j * 2, none⟩ = some (.int .i64 R[j].1) ∧ W.cell? ⟨b, off + j * 2 + 1, none⟩ = some (.int .i64 R[j].2)) (h0 : J [] W) :
    CallsIn F n Tryz.prog 35 #[.func (.yield l) #[] #[], .pointer (some ⟨Bs, 0, none⟩)] W fun e W' => (∃ v, e = .returned v) ∧
      ((∃ ys, ys = chans R ∧ J ys W') ∨ (∃ pre, pre <+: chans R ∧ Jx pre W')) := by
  have HC := Lib.hid hc
  have HL := Lib.hid hlim
  have HY := Lib.hid hY
  have HJa := Lib.hid hJa
  have H0 := Lib.hid h0
  clear hc hlim hY hJa h0
  obtain ⟨len, hlenE⟩ : ∃ len, R.length = len := ⟨_, rfl⟩
  have HE := Lib.hid hlenE
  rw [hlenE] at hBs hlen
  clear hlenE
  refine callsIn_of_wp Tryz.func35 rfl hf ?_ hro
  simp only [Tryz.ntmps35, List.size_toArray, List.length_cons, List.length_nil, Nat.reduceAdd, Nat.reduceSub, Array.replicate_succ, Array.replicate_zero, List.push_toArray, List.append_toArray, List.nil_append, List.cons_append]
  gi_wp2
  gi_loopw [8] (fun i wr => ∃ j : Nat, j ≤ len ∧ i = .int .i64 (j : Nat) ∧ Hid (J (chans (R.take j)) wr) ∧ Hid (KT mk W wr)) (fun i _ => len - (intOf i).toNat)
  case atStart => exact ⟨0, Nat.zero_le _, rfl, Lib.hid (by simpa [chans] using H0.out), Lib.hid (KT.refl mk W)⟩
  case round =>
    obtain ⟨j, hj, rfl, HJ, HK⟩ := hrel
    by_cases hlt : j < len
    · have hltR : j < R.length := by rw [HE.out]; exact hlt
      have d0 := HK.out.cell hbm (HC.out j hltR).1
      have d1 := HK.out.cell hbm (HC.out j hltR).2
      have hlm := HL.out R[j] (List.getElem_mem hltR)
      have HS := Lib.hid (chans_take hltR)
      have HP := Lib.hid (fun i => chans_pre hltR (i := i))
      have HT := Lib.hid (fun i => chans_lt hltR (i := i))
      unfold runL at HS
      obtain ⟨⟨f, t⟩, hft⟩ : ∃ r, R[j] = r := ⟨_, rfl⟩
      rw [hft] at d0 d1 hlm HS HP HT
      simp only at d0 d1 hlm HS HP HT
      obtain ⟨⟨hf0, hf1⟩, ht0, ht1⟩ := hlm
      have HRB := Lib.hid (RBT.new wr f t)
      have HGB := Lib.hid (World.grownBy_alloc wr (.cells #[.int .i64 f, .int .i64 t] 37) none)
      obtain ⟨k0, k1, -, -⟩ := id (RB.new wr 0 0 37)
      clear hft
      obtain ⟨N, hN⟩ : ∃ N, (t + 1 - f).toNat = N := ⟨_, rfl⟩
      rw [hN] at HS HP HT
      obtain ⟨n0, hn0⟩ : ∃ n0, wr.heap.size = n0 := ⟨_, rfl⟩
      have HJ2 : Hid (J (chans (R.take j)) _) := Lib.hid (HJa.out _ _ _ none HJ.out HGB.out (fun r e => by cases e))
      have HK2 : Hid (KT mk W _) := Lib.hid (HK.out.trans (KT.of_gb HGB.out))
      clear HGB HJ HK
      rw [hn0] at HRB
      gi_wp2
      (try simp only [hn0])
      generalize wr.alloc (.cells #[.int .i64 f, .int .i64 t] 37) = w2 at *
      clear k0 k1
      gi_loopw [5] (fun p wx => ∃ i : Nat, i ≤ N ∧ p = .int .i64 (f + (i : Nat)) ∧ Hid (J (chans (R.take j) ++ runP f i) wx) ∧ Hid (KT mk W wx) ∧ Hid (RBT wx n0 f t)) (fun p _ => (t + 1 - intOf p).toNat)
      case atStart => exact ⟨0, Nat.zero_le _, by simp, Lib.hid (by simpa [runP] using HJ2.out), HK2, HRB⟩
      case round =>
        rename_i wy
        obtain ⟨i, hi, rfl, HJ, HK, HB⟩ := hrel
        obtain ⟨k0, k1, kf0, kf1⟩ := RBT.rb HB.out
        by_cases hle : f + i ≤ t
        · obtain ⟨fn, tmps, assign, body, hy, hR⟩ := HY.out _ (f + i) _ HJ.out (by rw [List.append_assoc, ← runP_succ]; exact HP.out (i + 1) (by omega))
          gi_wp2
          refine hR.mono ?_
          rintro e W3 (⟨rfl, hJ3, hk3⟩ | ⟨rfl, hJx3⟩)
          · have HJ3 := Lib.hid hJ3
            have HK3 := Lib.hid (HK.out.trans hk3)
            have HB3 := Lib.hid (RBT.kt HB.out hk3)
            clear hJ3 hk3 hR hy HJ HK HB k0 k1 kf0 kf1
            gi_wp2
            go_roundw
            case rel => exact ⟨i + 1, by omega, by simp; omega, Lib.hid (by rw [runP_succ, ← List.append_assoc]; exact HJ3.out), HK3, HB3⟩
            case measure => simp [intOf]; omega
          · have HJ3 := Lib.hid hJx3
            clear hJx3 hR hy
            gi_wp2
            refine bodyPost_ret (results_none rfl _ _ _) rfl ?_
            refine ⟨⟨_, rfl⟩, .inr ⟨_, HP.out (i + 1) (by omega), ?_⟩⟩
            rw [runP_succ, ← List.append_assoc]; exact HJ3.out
        · have hiN : i = N := by omega
          subst hiN
          gi_wp2
          go_roundw
          case rel => exact ⟨j + 1, by omega, by go_num, Lib.hid (by rw [HS.out]; exact HJ.out), HK⟩
          case measure => simp [intOf]; omega
    · have hjl : j = len := by omega
      subst hjl
      have hJ : J (chans R) wr := by have := HJ.out; rwa [← HE.out, List.take_length] at this
      have HJ3 := Lib.hid hJ
      clear hJ
      gi_wp2
      go_end0
      exact ⟨⟨_, rfl⟩, .inl ⟨_, rfl, HJ3.out⟩⟩
/-- the iterator hands over the channels of the ranges -/
theorem ra_chans_stopsT (F : Fence) (n : Nat) (hf : F.fn 35) (hro : F.round = none) (hn : 1 ≤ n) (Bs mk : Nat) (a : Option Addr) (cap : Nat) (R : List (Int × Int)) (hcap : a = none → cap = 0) (hlen : R.length ≤ 1000000) (hlim : ∀ r ∈ R, 1 ≤ r.1 ∧ r.1 ≤ r.2 ∧ r.2 ≤ 999)
    (w : World) (hBs : w.cell? ⟨Bs, 0, none⟩ = some (.slice a R.length cap)) (hR : RngAt w a R) (hab : ∀ b o, a = some ⟨b, o, none⟩ → b < mk) :
    SeqStopsK F n Tryz.prog 35 #[.pointer (some ⟨Bs, 0, none⟩)] (fun x : Chn => #[Value.int .i64 x.1]) (KT mk) (fun ys => ys.map (·.1) = chans R) (fun pre => pre.map (·.1) <+: chans R) (chans R).length w := by
  intro l J Jx W hW hJ hJx hY h0
  have hBs' := (hW.cell (p := ⟨Bs, 0, none⟩) (cellLt hBs)).trans hBs
  rcases hR with ⟨rfl, rfl⟩ | ⟨b, off, rfl, hc⟩
  · cases hcap rfl
    exact (ra_chans1_nil F n hf hro l Bs (fun pre W => J [] W) W hBs' h0).mono fun e W' ⟨he, hj⟩ => ⟨he, .inl ⟨[], rfl, hj⟩⟩
  · refine (ra_chans1T F n hf hro hn l Bs mk b off cap R hlen (fun r hr => by have := hlim r hr; omega) (fun pre W => ∃ q : List Chn, q.map (·.1) = pre ∧ J q W) (fun pre W => ∃ q : List Chn, q.map (·.1) = pre ∧ Jx q W) W
      (fun s A B row hs hg hr => by obtain ⟨q, hq, hj⟩ := hs; exact ⟨q, hq, hJ q A B row hj hg hr⟩) (hab b off rfl) ?_ hBs'
      (fun j h => ⟨(hW.cell (p := ⟨b, off + j * 2, none⟩) (cellLt (hc j h).1)).trans (hc j h).1, (hW.cell (p := ⟨b, off + j * 2 + 1, none⟩) (cellLt (hc j h).1)).trans (hc j h).2⟩) ⟨[], rfl, h0⟩).mono ?_
    · rintro pre x W1 ⟨q, rfl, hj⟩ hp
      have hx : x ∈ chans R := hp.subset (by simp)
      have hlt : q.length < (chans R).length := by have := hp.length_le; simp at this; omega
      refine (hY q ⟨x, chn_bound hlim hx⟩ W1 hj hlt).mono ?_
      rintro e W' (⟨rfl, h1, h2⟩ | ⟨rfl, h1⟩)
      · exact .inl ⟨rfl, ⟨_, by simp, h1⟩, h2⟩
      · exact .inr ⟨rfl, ⟨_, by simp, h1⟩⟩
    · rintro e W' ⟨he, ⟨ys, rfl, q, hq, hj⟩ | ⟨pre, hp, q, rfl, hj⟩⟩
      · exact ⟨he, .inl ⟨q, hq, hj⟩⟩
      · exact ⟨he, .inr ⟨q, hp, hj⟩⟩
end Go.Proofs.YtjideokeokmbaaaGreatDoor

/- Sets of channels: slices.Collect of channels, and the program's List. -/
namespace Go.Proofs.YtjideokeokmbaaaGreatDoor.Z
open Go
def listR (R : List (Int × Int)) : List Int × Int := if checkR R ≠ 0 then ([], checkR R) else (chans R, 0)
end Go.Proofs.YtjideokeokmbaaaGreatDoor.Z
namespace Go.Proofs.YtjideokeokmbaaaGreatDoor
open Go.RowKit Go.Shelf
open Z
attribute [local go_sem] Oper.semAt_some
/-- a slice that owns integers -/
def OwnI (B : Nat) (w : World) (v : Value) (l : List Int) : Prop := w.ownsRow B 3 1 v l.length (l.map (Value.int .i64))
theorem OwnI.nil (B : Nat) (w : World) : OwnI B w (.slice none 0 0) [] := World.ownsRow_nil _ _ _ _
def ivC (pre : List Chn) : List Value := pre.map fun x => Value.int .i64 x.1
theorem ivC_snoc (pre : List Chn) (x : Chn) : ivC (pre ++ [x]) = ivC pre ++ [.int .i64 x.1] := by unfold ivC; rw [List.map_append]; rfl
theorem KT.appended {W w1 : World} {mk B : Nat} {t e : TypeId} {size : Nat} {v v' : Value} {k : Nat} {xs : List Value} {tmp : Obj}
    (hv : Boxed W B t v) (ht : t ≠ 37) (he : e ≠ 37) (hrow : W.ownsRow mk e size v k xs) (hB : mk ≤ B) (hgrow : (W.alloc tmp).grownBy w1 v.ownBlock) :
    KT mk W (w1.setCell ⟨B, 0, none⟩ v') := by
  refine ⟨by rw [World.size_setCell]; exact Nat.le_trans (by simp) hgrow.size, fun j c e' f hc hx => ?_⟩
  have hj : j < W.heap.size := (Array.getElem?_eq_some_iff.1 hc).1
  have h1 : (W.alloc tmp).heap[j]? = some (.cells c e' f) := (Below.heap_alloc W tmp j hj).trans hc
  have h2 : w1.heap[j]? = some (.cells c e' f) := by
    refine (hgrow.block j (by simp; omega) ?_).trans h1
    rcases hrow.2 with ⟨rfl, _⟩ | ⟨g, cap, cur, rfl, hg, hgb, _⟩
    · simp [Value.ownBlock]
    · intro e2
      obtain rfl : j = g := by simpa [Value.ownBlock] using e2
      rw [hgb] at hc
      cases hc
      rcases hx with hx | hx
      · omega
      · exact he hx
  refine (Below.heap_setCell w1 _ v' j (fun e2 => ?_)).trans h2
  obtain rfl : j = B := e2
  have : W.heap[j]? = _ := hv
  rw [this] at hc
  cases hc
  rcases hx with hx | hx
  · omega
  · exact ht hx
end Go.Proofs.YtjideokeokmbaaaGreatDoor

/- Sets of channels: the program's List. -/
namespace Go.Proofs.YtjideokeokmbaaaGreatDoor
open Go.RowKit Go.Shelf
open Z
theorem OwnI.low {B B' : Nat} {w : World} {v : Value} {l : List Int} (h : OwnI B w v l) (hB : B' ≤ B) : OwnI B' w v l := by
  refine ⟨h.1, ?_⟩
  rcases h.2 with h2 | ⟨g, cap, cur, h1, hb, h3⟩
  · exact .inl h2
  · exact .inr ⟨g, cap, cur, h1, Nat.le_trans hB hb, h3⟩
theorem ra_channels (a : Option Addr) (len cap : Nat) (w : World) :
    Calls Tryz.prog 24 #[.slice a len cap] w fun e w' => e = .returned (.func (.func 35) #[] #[.pointer (some ⟨w.heap.size, 0, none⟩)]) ∧ w' = w.alloc (.cells #[.slice a len cap] 22) :=
  (callsIn_wide (n := 5)).1 (ra_channels_in Fence.wide 5 trivial rfl a len cap w)
end Go.Proofs.YtjideokeokmbaaaGreatDoor
