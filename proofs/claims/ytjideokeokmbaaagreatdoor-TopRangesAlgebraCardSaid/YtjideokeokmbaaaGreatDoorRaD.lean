/- Sets of channels: the program's members: adding and removing ranges. -/
import Derived.Test.YtjideokeokmbaaaGreatDoorRaC
set_option linter.unusedVariables false
set_option linter.unusedSimpArgs false
namespace Go.Proofs.YtjideokeokmbaaaGreatDoor.Z
open Go
/-- what tells of each channel whether it is in a set, some channels having been set -/
def updM (g : Nat → Bool) (L : List Int) (v : Bool) (k : Nat) : Bool := if (k : Int) ∈ L then v else g k
theorem updM_nil (g : Nat → Bool) (v : Bool) : updM g [] v = g := by funext k; simp [updM]
theorem updM_snoc (g : Nat → Bool) (L : List Int) (x : Int) (v : Bool) (k : Nat) : updM g (L ++ [x]) v k = if (k : Int) = x then v else updM g L v k := by
  unfold updM
  by_cases h : (k : Int) = x
  · simp [h]
  · simp [h]
end Go.Proofs.YtjideokeokmbaaaGreatDoor.Z
namespace Go.Proofs.YtjideokeokmbaaaGreatDoor
open Go.RowKit Go.Shelf
open Z
attribute [local go_sem] Oper.semAt_some
/-- a channel -/
abbrev Chn := { x : Int // 1 ≤ x ∧ x ≤ 999 }
/-- ranges in memory -/
def RngAt (W : World) (a : Option Addr) (R : List (Int × Int)) : Prop :=
  (a = none ∧ R = []) ∨ ∃ b off, a = some ⟨b, off, none⟩ ∧ ∀ j (h : j < R.length), W.cell? ⟨b, off + j * 2, none⟩ = some (.int .i64 R[j].1) ∧ W.cell? ⟨b, off + j * 2 + 1, none⟩ = some (.int .i64 R[j].2)
/-- the block that tells of each channel whether it is in -/
def memA (g : Nat → Bool) : Array Value := ((List.range 1000).map fun k => Value.bool (g k)).toArray
theorem memA_size (g : Nat → Bool) : (memA g).size = 1000 := by simp [memA]
theorem memA_get (g : Nat → Bool) {k : Nat} (h : k < 1000) : (memA g)[k]? = some (.bool (g k)) := by simp [memA, h]
theorem memA_set (g : Nat → Bool) (i : Nat) (v : Bool) : (memA g).setIfInBounds i (.bool v) = memA (fun k => if k = i then v else g k) := by
  apply Array.ext_getElem?
  intro k
  rw [Array.getElem?_setIfInBounds, memA_size]
  by_cases hk : k < 1000
  · rw [memA_get _ hk, memA_get _ hk]
    by_cases hki : i = k
    · subst hki; simp [hk]
    · simp [hki]; exact fun e => absurd e.symm hki
  · have h1 : ∀ g : Nat → Bool, (memA g)[k]? = none := fun g => by rw [Array.getElem?_eq_none_iff, memA_size]; omega
    rw [h1, h1]
    by_cases hki : i = k
    · subst hki; simp [hk]
    · simp [hki]
def MemAt (W : World) (mb : Nat) (g : Nat → Bool) : Prop := W.heap[mb]? = some (.cells (memA g) 63 (0, 0))
theorem MemAt.at {W : World} {mb : Nat} {g : Nat → Bool} (h : MemAt W mb g) (k : Nat) (hk : k < 1000) : W.cell? ⟨mb, k, none⟩ = some (.bool (g k)) ∧ W.frozen? ⟨mb, k, none⟩ = false := by
  unfold MemAt at h
  exact ⟨by simp [World.cell?, h, memA_get g hk], by simp [World.frozen?, h]⟩
theorem MemAt.set {W : World} {mb : Nat} {g : Nat → Bool} (h : MemAt W mb g) {i : Nat} (_ : i < 1000) (v : Bool) : MemAt (W.setCell ⟨mb, i, none⟩ (.bool v)) mb (fun k => if k = i then v else g k) := by
  unfold MemAt at h ⊢
  rw [← memA_set]
  exact heap_setCell_same W mb i (memA g) _ (.bool v) h
theorem chn_bound {R : List (Int × Int)} (hlim : ∀ r ∈ R, 1 ≤ r.1 ∧ r.1 ≤ r.2 ∧ r.2 ≤ 999) {x : Int} (h : x ∈ chans R) : 1 ≤ x ∧ x ≤ 999 := by
  unfold chans at h
  rw [List.mem_flatMap] at h
  obtain ⟨r, hr, hx⟩ := h
  obtain ⟨h1, h2, h3⟩ := hlim r hr
  unfold runL runP at hx
  rw [List.mem_map] at hx
  obtain ⟨i, hi, rfl⟩ := hx
  rw [List.mem_range] at hi
  omega
set_option maxHeartbeats 1000000 in
theorem ra_channels_in (F : Fence) (n : Nat) (hf : F.fn 24) (hro : F.round = none) (a : Option Addr) (len cap : Nat) (w : World) :
    CallsIn F n Tryz.prog 24 #[.slice a len cap] w fun e w' => e = .returned (.func (.func 35) #[] #[.pointer (some ⟨w.heap.size, 0, none⟩)]) ∧ w' = w.alloc (.cells #[.slice a len cap] 22) := by
  refine callsIn_of_wp Tryz.func24 rfl hf ?_ hro
  simp only [Tryz.ntmps24, List.size_toArray, List.length_cons, List.length_nil, Nat.reduceAdd, Nat.reduceSub, Array.replicate_succ, Array.replicate_zero, List.push_toArray, List.append_toArray, List.nil_append, List.cons_append]
  gi_wp2
  go_ret
  exact ⟨rfl, rfl⟩
set_option maxRecDepth 100000 in
set_option maxHeartbeats 1000000 in
theorem ra_chans1_nil (F : Fence) (n : Nat) (hf : F.fn 35) (hro : F.round = none) (l Bs : Nat) (J : List Int → World → Prop) (W : World) (hBs : W.cell? ⟨Bs, 0, none⟩ = some (.slice none 0 0)) (h0 : J [] W) :
    CallsIn F n Tryz.prog 35 #[.func (.yield l) #[] #[], .pointer (some ⟨Bs, 0, none⟩)] W fun e W' => (∃ v, e = .returned v) ∧ J [] W' := by
  have H0 := Lib.hid h0
  clear h0
  refine callsIn_of_wp Tryz.func35 rfl hf ?_ hro
  simp only [Tryz.ntmps35, List.size_toArray, List.length_cons, List.length_nil, Nat.reduceAdd, Nat.reduceSub, Array.replicate_succ, Array.replicate_zero, List.push_toArray, List.append_toArray, List.nil_append, List.cons_append]
  gi_wp2
  gi_loopw [8] (fun i wr => i = .int .i64 0 ∧ Hid (J [] wr)) (fun _ _ => 0)
  case atStart => exact ⟨rfl, H0⟩
  case round =>
    obtain ⟨rfl, hJs⟩ := hrel
    gi_wp2
    go_end0
    exact ⟨⟨_, rfl⟩, hJs.out⟩
/-- the iterator hands over the channels of the ranges -/
theorem ra_chans_stops (F : Fence) (n : Nat) (hf : F.fn 35) (hro : F.round = none) (hn : 1 ≤ n) (Bs mb : Nat) (a : Option Addr) (cap : Nat) (R : List (Int × Int)) (hcap : a = none → cap = 0) (hlen : R.length ≤ 1000000) (hlim : ∀ r ∈ R, 1 ≤ r.1 ∧ r.1 ≤ r.2 ∧ r.2 ≤ 999)
    (w : World) (hBs : w.cell? ⟨Bs, 0, none⟩ = some (.slice a R.length cap)) (hR : RngAt w a R) (hbs : Bs ≠ mb) (hab : ∀ b o, a = some ⟨b, o, none⟩ → b ≠ mb) (hmb : mb < w.heap.size) :
    SeqStopsK F n Tryz.prog 35 #[.pointer (some ⟨Bs, 0, none⟩)] (fun x : Chn => #[Value.int .i64 x.1]) (KC mb) (fun ys => ys.map (·.1) = chans R) (fun pre => pre.map (·.1) <+: chans R) (chans R).length w := by
  intro l J Jx W hW hJ hJx hY h0
  have hBs' := (hW.cell (p := ⟨Bs, 0, none⟩) (cellLt hBs)).trans hBs
  rcases hR with ⟨rfl, rfl⟩ | ⟨b, off, rfl, hc⟩
  · cases hcap rfl
    exact (ra_chans1_nil F n hf hro l Bs (fun pre W => J [] W) W hBs' h0).mono fun e W' ⟨he, hj⟩ => ⟨he, .inl ⟨[], rfl, hj⟩⟩
  · refine (ra_chans1 F n hf hro hn l Bs mb b off cap R hlen (fun r hr => by have := hlim r hr; omega) (fun pre W => ∃ q : List Chn, q.map (·.1) = pre ∧ J q W) (fun pre W => ∃ q : List Chn, q.map (·.1) = pre ∧ Jx q W) W
      (fun s A B row hs hg hr => by obtain ⟨q, hq, hj⟩ := hs; exact ⟨q, hq, hJ q A B row hj hg hr⟩) hbs (hab b off rfl) (Nat.lt_of_lt_of_le hmb hW.size) ?_ hBs'
      (fun j h => ⟨(hW.cell (p := ⟨b, off + j * 2, none⟩) (cellLt (hc j h).1)).trans (hc j h).1, (hW.cell (p := ⟨b, off + j * 2 + 1, none⟩) (cellLt (hc j h).1)).trans (hc j h).2⟩) ⟨[], rfl, h0⟩).mono ?_
    · rintro pre x W1 ⟨q, rfl, hj⟩ hp
      have hx : x ∈ chans R := hp.subset (by simp)
      have hlt : q.length < (chans R).length := by have := hp.length_le; simp at this; omega
      refine (hY q ⟨x, chn_bound hlim hx⟩ W1 hj hlt).mono ?_
      rintro e W' (⟨rfl, h1, h2⟩ | ⟨rfl, h1⟩)
      · exact .inl ⟨rfl, ⟨_, by simp, h1⟩, h2⟩
      · exact .inr ⟨rfl, ⟨_, by simp, h1⟩⟩
    · rintro e W' ⟨he, ⟨ys, rfl, q, hq, hj⟩ | ⟨pre, hp, q, rfl, hj⟩⟩
      · exact ⟨he, .inl ⟨q, hq, hj⟩⟩
      · exact ⟨he, .inr ⟨q, hp, hj⟩⟩
theorem Upd.of_gb {b : Nat} {w W W' : World} {row : Option Nat} (h : Upd b w W) (hg : W.grownBy W' row) (hr : ∀ r, row = some r → w.heap.size ≤ r) : Upd b w W' :=
  ⟨fun w0 h0 hb => (h.1 w0 h0 hb).grown hg (by have := h0.size; have := h.2.2; omega) (fun k e => by have := hr k e; have := h0.size; omega),
    fun k hk hne => (hg.block k (by have := h.2.2; omega) (fun e => by have := hr k e.symm; omega)).trans (h.2.1 k hk hne), Nat.le_trans h.2.2 hg.size⟩
theorem MemAt.gb {W W' : World} {mb : Nat} {g : Nat → Bool} {row : Option Nat} (h : MemAt W mb g) (hg : W.grownBy W' row) (hr : ∀ r, row = some r → ∃ o : Obj, W.heap[r]? = some o ∧ o.isCells = false) : MemAt W' mb g :=
  (hg.block mb (Array.getElem?_eq_some_iff.1 h).1 (fun e => by obtain ⟨o, h1, h2⟩ := hr mb e.symm; rw [h] at h1; cases h1; cases h2)).trans h
theorem MemAt.congr {W : World} {mb : Nat} {g g' : Nat → Bool} (h : MemAt W mb g) (he : ∀ k, g k = g' k) : MemAt W mb g' := by rw [← funext he]; exact h
theorem boxed_set {W : World} {B B' : Nat} {t : TypeId} {u : Value} (h : Boxed W B t u) (o : Nat) (hne : B ≠ B') (x : Value) : Boxed (W.setCell ⟨B', o, none⟩ x) B t u := (Below.heap_setCell W _ x B hne).trans h
theorem Upd.drew {b : Nat} {w W : World} (h : Upd b w W) : Upd b w W.drew := ⟨fun w0 h0 hb => (h.1 w0 h0 hb).drew, h.2.1, h.2.2⟩
theorem RngAt.gb {W W' : World} {a : Option Addr} {R : List (Int × Int)} (h : RngAt W a R) (hg : W.grownBy W' none) : RngAt W' a R := by
  rcases h with h | ⟨b, off, ha, hc⟩
  · exact .inl h
  · exact .inr ⟨b, off, ha, fun j hj => ⟨cell_kept (hc j hj).1 hg (fun r e => by cases e), cell_kept (hc j hj).2 hg (fun r e => by cases e)⟩⟩
set_option maxRecDepth 100000 in
set_option maxHeartbeats 4000000 in
theorem ra_put (mb : Nat) (a : Option Addr) (R : List (Int × Int)) (cap : Nat) (v : Bool) (g : Nat → Bool) (w : World) (hm : MemAt w mb g) (hcap : a = none → cap = 0) (hlen : R.length ≤ 1000000) (hlim : ∀ r ∈ R, 1 ≤ r.1 ∧ r.1 ≤ r.2 ∧ r.2 ≤ 999)
    (hR : RngAt w a R) (hab : ∀ b o, a = some ⟨b, o, none⟩ → b ≠ mb) :
    Calls Tryz.prog 40 #[.pointer (some ⟨mb, 0, none⟩), .slice a R.length cap, .bool v] w fun e w' => (∃ u, e = .returned u) ∧ MemAt w' mb (updM g (chans R) v) ∧ Upd mb w w' := by
  have hmb : mb < w.heap.size := cellLt (hm.at 0 (by omega)).1
  refine (callsIn_wide (n := 5)).1 ?_
  have hro : Fence.wide.round = none := rfl
  have HM := Lib.hid hm
  have HR := Lib.hid hR
  have HL := Lib.hid hlim
  have HA := Lib.hid hab
  have HZ := Lib.hid hcap
  obtain ⟨len, hl⟩ : ∃ len, R.length = len := ⟨_, rfl⟩
  have HE := Lib.hid hl
  rw [hl] at hlen ⊢
  clear hm hR hlim hab hcap hl
  refine callsIn_of_wp_marks Tryz.func40 rfl trivial ?_ hro
  simp only [Tryz.ntmps40, List.size_toArray, List.length_cons, List.length_nil, Nat.reduceAdd, Nat.reduceSub, Array.replicate_succ, Array.replicate_zero, List.push_toArray, List.append_toArray, List.nil_append, List.cons_append]
  gi_wp2
  refine ⟨trivial, (ra_channels_in Fence.wide _ trivial rfl _ _ _ _).mono ?_⟩; rintro e w' ⟨rfl, rfl⟩
  gi_wp2
  obtain ⟨W0, hW0⟩ : ∃ W0, ((w.alloc (.cells #[.pointer (some ⟨mb, 0, none⟩)] 80)).alloc (.cells #[.bool v] 4)).alloc (.cells #[.slice a len cap] 22) = W0 := ⟨_, rfl⟩
  have hsz : W0.heap.size = w.heap.size + 3 := by rw [← hW0]; simp
  have hgb : w.grownBy W0 none := by rw [← hW0]; exact ((World.grownBy_alloc w _ none).trans (World.grownBy_alloc _ _ none)).trans (World.grownBy_alloc _ _ none)
  have b0 : Boxed W0 w.heap.size 80 (.pointer (some ⟨mb, 0, none⟩)) := by rw [← hW0]; exact ((Boxed.new w _ _).alloc _).alloc _
  have b1 : Boxed W0 (w.heap.size + 1) 4 (.bool v) := by rw [← hW0]; have := ((Boxed.new (w.alloc (.cells #[.pointer (some ⟨mb, 0, none⟩)] 80)) 4 (.bool v)).alloc (.cells #[.slice a len cap] 22)); simpa using this
  have b2 : W0.cell? ⟨w.heap.size + 2, 0, none⟩ = some (.slice a len cap) := by rw [← hW0, World.cell?_alloc_at _ _ _ _ (by simp)]; rfl
  rw [hW0]
  refine wpIn_rangeFunc_ownF hro (by omega) (gf := 35) (lb := #[.pointer (some ⟨w.heap.size + 2, 0, none⟩)]) rfl trivial (enters_of Tryz.func35 (by kernel_rfl) rfl)
    (ra_chans_stops Fence.wide 4 trivial rfl (by omega) (w.heap.size + 2) mb a cap R HZ.out (by rw [HE.out]; exact hlen) HL.out W0 (by rw [HE.out]; exact b2) (HR.out.gb hgb) (by omega) HA.out (by omega))
    KC.trans (fun W l o o' _ h ho _ => KC.put W l o o' h ho) (Below.refl _ _) (fun _ => rfl)
    (fun pre W => (MemAt W mb (updM g (pre.map (fun x : Chn => x.1)) v) ∧ Boxed W w.heap.size 80 (.pointer (some ⟨mb, 0, none⟩)) ∧ Boxed W (w.heap.size + 1) 4 (.bool v)) ∧ Upd mb w W)
    (fun _ _ _ => False)
    (fun s A B row hs hg hr => ⟨⟨hs.1.1.gb hg (fun r e => (hr r e).2), hs.1.2.1.kept hg (fun e => by have := (hr _ e.symm).1; omega), hs.1.2.2.kept hg (fun e => by have := (hr _ e.symm).1; omega)⟩, hs.2.of_gb hg (fun r e => by have := (hr r e).1; omega)⟩)
    (fun _ _ _ _ _ hs _ _ => hs)
    ⟨⟨by simpa [updM_nil] using HM.out.gb hgb (fun r e => by cases e), b0, b1⟩, Upd.of_gb (Upd.refl mb w) hgb (fun r e => by cases e)⟩
    (fun x => { tmps := #[.pointer (some ⟨mb, 0, none⟩), .slice a len cap, .bool v, .pointer (some ⟨w.heap.size, 0, none⟩), undef, .pointer (some ⟨w.heap.size + 1, 0, none⟩), .int .i64 x.1, .slice a len cap, .func (.func 35) #[] #[.pointer (some ⟨w.heap.size + 2, 0, none⟩)], .int .i64 x.1, undef, undef, undef, undef, undef], defers := [] }) ?assign ?body ?done ?stop
  case assign =>
    intro l x W K hK
    gi_wp2
    exact hK
  case body =>
    rintro l pre x W ⟨⟨hM, hb0, hb1⟩, hU⟩ _
    obtain ⟨x, hx0, hx1⟩ := x
    obtain ⟨i, rfl⟩ : ∃ i : Nat, x = (i : Int) := ⟨x.toNat, by omega⟩
    have hi : i < 1000 := by omega
    have k0 := hb0.cell
    have k1 := hb1.cell
    have m0 := (hM.at i hi).1
    have m1 := (hM.at i hi).2
    have HM2 := Lib.hid ((hM.set hi v).congr (g' := updM g ((pre ++ [(⟨(i : Int), hx0, hx1⟩ : Chn)]).map (fun x : Chn => x.1)) v) (fun k => by rw [List.map_append, List.map_cons, List.map_nil, updM_snoc]; simp only [Int.ofNat_inj]))
    have HU2 := Lib.hid (hU.trans (Upd.set (b := mb) (o := i) W (.bool v)))
    have HB0 := Lib.hid (boxed_set (B' := mb) hb0 i (by omega) (.bool v))
    have HB1 := Lib.hid (boxed_set (B' := mb) hb1 i (by omega) (.bool v))
    have HM0 := Lib.hid hM
    have HU := Lib.hid hU
    clear hM hU
    gi_wp2
    gi_region
    all_goals
      gi_wp2
      exact ⟨(KeepsOthers.setCell W _ _).trans (KeepsOthers.drew _), KC.set W (.bool v), ⟨HM2.out, HB0.out, HB1.out⟩, HU2.out.drew⟩
  case done =>
    rintro D ys W hD hys ⟨⟨hM, _, _⟩, hU⟩ hK
    have HM2 := Lib.hid hM
    have HU := Lib.hid hU
    clear hM hU
    gi_wp2
    refine ⟨by simp, .inl ⟨_, _, rfl, run_takeDeferred hK, ?_⟩⟩
    have hg := grownBy_putObj' W D (.deferred none)
    refine ⟨_, results_none rfl _ _ _, ⟨_, rfl⟩, ?_, HU.out.of_gb hg (fun r e => by cases e; omega)⟩
    rw [← hys]
    exact HM2.out.gb hg (fun r e => by cases e; exact ⟨_, hK, rfl⟩)
  case stop =>
    rintro D c pre W _ _ h _
    exact h.elim
end Go.Proofs.YtjideokeokmbaaaGreatDoor
