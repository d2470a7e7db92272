/- Law 11: ColourOrders. -/
import Derived.Test.YtipfofdjngnkpaaCoZ
import Derived.Test.YtipfofdjngnkpaaCpB
set_option linter.unusedVariables false
set_option linter.unusedSimpArgs false
namespace Go.Proofs.Ytipfofdjngnkpaa.Z
open Go
def rotL (l : List Int) (k : Nat) : List Int := l.drop k ++ l.take k
theorem rotL_len (l : List Int) {k : Nat} (h : k ≤ l.length) : (rotL l k).length = l.length := by unfold rotL; simp; omega
theorem rotL_perm (l : List Int) (k : Nat) : (rotL l k).Perm l := by
  unfold rotL
  have h := List.perm_append_comm (l₁ := l.drop k) (l₂ := l.take k)
  rwa [List.take_append_drop] at h
theorem rotL_contains (l : List Int) (k : Nat) (a : Int) : (rotL l k).contains a = l.contains a := by
  rw [Bool.eq_iff_iff, List.contains_iff_mem, List.contains_iff_mem, (rotL_perm l k).mem_iff]
theorem rotL_addi (l : List Int) (k : Nat) : addi (rotL l k) = addi l := by unfold addi has3; simp only [rotL_contains]
theorem rotL_subt (l : List Int) (k : Nat) : subt (rotL l k) = subt l := by unfold subt has3; simp only [rotL_contains]
theorem rotL_pal {l : List Int} (k : Nat) (h : palR l = 0) : palR (rotL l k) = 0 := by
  rw [palR_zero] at h ⊢
  have hp := rotL_perm l k
  exact ⟨by rw [hp.length_eq]; exact h.1, fun a ha => h.2.1 a (hp.mem_iff.1 ha), hp.nodup_iff.2 h.2.2.1, by rw [rotL_addi, rotL_subt]; exact h.2.2.2⟩
theorem rotL_mix (l : List Int) (k : Nat) (c : C3) : mixL (rotL l k) c = rotL (mixL l c) k := by
  have h : mixA (rotL l k) c = mixA l c := by funext a; unfold mixA whA; rw [rotL_addi, rotL_contains]
  unfold mixL
  rw [h]
  unfold rotL
  rw [List.map_append, List.map_drop, List.map_take]
theorem palR_pos {l : List Int} (h : palR l = 0) : 0 < l.length := by
  rcases l with _ | ⟨a, l⟩
  · simp [palR, palF, addi, subt, has3] at h
  · simp
end Go.Proofs.Ytipfofdjngnkpaa.Z
namespace Go.Proofs.Ytipfofdjngnkpaa
open Go.RowKit
open Z
theorem RdI.at0 {w : World} {a : Option Addr} {X : List Int} (h : RdI w a X) (h0 : 0 < X.length) : ∃ g o, a = some ⟨g, o, none⟩ ∧ IntsAt w (some ⟨g, o, none⟩) X := by
  obtain ⟨g, o, rfl, -⟩ := h 0 h0
  refine ⟨g, o, rfl, .inr ⟨g, o, rfl, fun j hj => ?_⟩⟩
  obtain ⟨g2, o2, e, hc⟩ := h j hj
  cases e
  exact hc
theorem parts2 {w : World} {g o m c k : Nat} {X : List Int} (h : IntsAt w (some ⟨g, o, none⟩) X) (hm : X.length = m) (hk : k < m) :
    PartsAt (w.drew.alloc (.cells #[.slice (some ⟨g, o + k, none⟩) (m - k) (c - k), .slice (some ⟨g, o, none⟩) k c] 22)) w.heap.size [X.drop k, X.take k] ∧ Gr w (w.drew.alloc (.cells #[.slice (some ⟨g, o + k, none⟩) (m - k) (c - k), .slice (some ⟨g, o, none⟩) k c] 22)) := by
  have hG : Gr w (w.drew.alloc (.cells #[.slice (some ⟨g, o + k, none⟩) (m - k) (c - k), .slice (some ⟨g, o, none⟩) k c] 22)) := (Below.drew (Gr.refl w)).alloc (Nat.le_refl _) _
  refine ⟨fun j hj => ?_, hG⟩
  have hc : ∀ i (hi : i < m), (w.drew.alloc (.cells #[.slice (some ⟨g, o + k, none⟩) (m - k) (c - k), .slice (some ⟨g, o, none⟩) k c] 22)).cell? ⟨g, o + i, none⟩ = some (.int .i64 (X[i]'(by omega))) := fun i hi => by
    rcases h with ⟨h, -⟩ | ⟨g', o', h, hx⟩
    · cases h
    · cases h; exact gr_cell hG (hx i (by omega))
  have hz : ∀ j v, (#[Value.slice (some ⟨g, o + k, none⟩) (m - k) (c - k), .slice (some ⟨g, o, none⟩) k c] : Array Value)[j]? = some v → (w.drew.alloc (.cells #[.slice (some ⟨g, o + k, none⟩) (m - k) (c - k), .slice (some ⟨g, o, none⟩) k c] 22)).cell? ⟨w.heap.size, j, none⟩ = some v := fun j v hv => by
    rw [show w.heap.size = w.drew.heap.size from rfl, World.cell?_alloc_at _ _ _ _ rfl]; exact hv
  match j, hj with
  | 0, _ => exact ⟨some ⟨g, o + k, none⟩, c - k, hz 0 _ (by simp [List.length_drop, hm]), .inr ⟨g, o + k, rfl, fun i hi => by
      simp only [List.getElem_cons_zero, List.length_drop] at hi ⊢
      rw [List.getElem_drop, Nat.add_assoc]; exact hc (k + i) (by omega)⟩, fun e => by cases e⟩
  | 1, _ => exact ⟨some ⟨g, o, none⟩, c, hz 1 _ (by simp [List.length_take]; omega), .inr ⟨g, o, rfl, fun i hi => by
      simp only [List.getElem_cons_succ, List.getElem_cons_zero, List.length_take] at hi ⊢
      rw [List.getElem_take]; exact hc i (by omega)⟩, fun e => by cases e⟩
/-- the contract of slices.Concat of the two parts of a list -/
theorem concat2 {w : World} {g o m c k : Nat} {X : List Int} (h : RdI w (some ⟨g, o, none⟩) X) (hm : X.length = m) (hk : k < m) (hm2 : m ≤ 1000) :
    Calls Try.prog 25 #[.slice (some ⟨w.heap.size, 0, none⟩) 2 2] (w.drew.alloc (.cells #[.slice (some ⟨g, o + k, none⟩) (m - k) (c - k), .slice (some ⟨g, o, none⟩) k c] 22)) fun e w' => (∃ a cap, e = .returned (.slice a m cap) ∧ RdI w' a (rotL X k) ∧ m ≤ cap ∧ cap ≤ maxLen) ∧ Gr w w' := by
  obtain ⟨g', o', e, hi⟩ := h.at0 (by omega)
  cases e
  obtain ⟨hP, hG⟩ := parts2 (c := c) hi hm hk
  have hf : [X.drop k, X.take k].flatten = rotL X k := by unfold rotL; simp
  have hl : (rotL X k).length = m := by rw [rotL_len X (by omega)]; exact hm
  have hC := sl_Concat w.heap.size [X.drop k, X.take k] 2 _ hP (by simp) (by rw [hf, hl]; omega) (by rw [hf, hl]; omega)
  rw [hf] at hC
  refine hC.mono ?_
  rintro e w' ⟨v, rfl, ho, hg⟩
  obtain ⟨a, cap, rfl, hr, h1, h2⟩ := ho.shape
  rw [hl] at h1 ⊢
  exact ⟨⟨a, cap, rfl, hr, h1, h2⟩, hG.trans hg⟩
set_option maxRecDepth 100000 in
set_option maxHeartbeats 4000000 in
theorem l11_ColourOrders {a : Option Addr} {l : List Int} {cap : Nat} (c : C3) {t : Int} (ht : 0 ≤ t ∧ t ≤ 255) (w : World) (hr : RdI w a l) (hcap : l.length ≤ cap) (hmax : cap ≤ maxLen) :
    Calls Try.prog 8 #[.slice a l.length cap, vC c, .int .u8 t] w fun e w' => e = .returned (.bool true) ∧ Gr w w' := by
  have hlm : l.length ≤ maxLen := Nat.le_trans hcap hmax
  have hlm2 : l.length ≤ 9223372036854775807 := hlm
  obtain ⟨w0, hw0⟩ : ∃ v, v = w.alloc (.cells #[.int .i64 c.1, .int .i64 c.2.1, .int .i64 c.2.2] 23) := ⟨_, rfl⟩
  have HC0 := Lib.hid (show C3At w0 w.heap.size c by rw [hw0]; exact C3At.new w c)
  have HG0 := Lib.hid (show Gr w w0 by rw [hw0]; exact (Gr.refl w).alloc _)
  have HP := Lib.hid (rf_Check (cap := cap) w0 (hr.gr HG0.out) hcap hmax)
  have HK := Lib.hid (fun w => rf_Colour c w)
  have HM : Hid (∀ (w1 : World) (b : Option Addr) (X : List Int) (cb : Nat), RdI w1 b X → X.length ≤ maxLen → Calls Try.prog 11 #[.slice b X.length cb, vC c] w1 fun e w' => (∃ a' cap', e = .returned (.tuple #[.slice a' (mixR X c).1.length cap', .int .i64 (mixR X c).2]) ∧ RdI w' a' (mixR X c).1 ∧ (mixR X c).1.length ≤ cap' ∧ cap' ≤ maxLen) ∧ Gr w1 w') := Lib.hid fun w1 b X cb h hx => co_Mix (cap := cb) c w1 h hx
  have HR := Lib.hid hr
  have HW0 := Lib.hid hw0
  clear hw0
  by_cases hp : palR l = 0
  · rw [hp] at HP
    by_cases hc : isC c = true
    · rw [hc] at HK
      have hn0 := palR_pos hp
      have hn15 := (palR_zero.1 hp).1
      obtain ⟨b, o, rfl, -⟩ := hr 0 hn0
      have hmr : ∀ X, palR X = 0 → mixR X c = (mixL X c, 0) := fun X hX => by unfold mixR; rw [if_neg (by simp [hX]), if_pos hc]
      obtain ⟨n, hn⟩ : ∃ n, n = l.length := ⟨_, rfl⟩
      have htm : t.tmod (n : Int) = ((t.toNat % n : Nat) : Int) := by
        rw [Int.tmod_eq_emod_of_nonneg ht.1]
        have h1 : t = (t.toNat : Int) := by omega
        conv => lhs; rw [h1]
        omega
      have hkn : t.toNat % n < n := Nat.mod_lt _ (by omega)
      generalize t.toNat % n = k at *
      have hpr := rotL_pal k hp
      have HMA : Hid (∀ w1, Gr w w1 → Calls Try.prog 11 #[.slice (some ⟨b, o, none⟩) n cap, vC c] w1 fun e w' => (∃ a' cap', e = .returned (.tuple #[.slice a' n cap', .int .i64 0]) ∧ RdI w' a' (mixL l c) ∧ n ≤ cap' ∧ cap' ≤ maxLen) ∧ Gr w1 w') := Lib.hid fun w1 h => by
        have h2 := HM.out w1 _ l cap (hr.gr h) hlm
        rw [hmr l hp, ← hn] at h2
        have hl : (mixL l c).length = n := by rw [hn]; simp [mixL]
        simp only [hl] at h2
        exact h2
      have HMB : Hid (∀ w1 b' cb, RdI w1 b' (rotL l k) → Calls Try.prog 11 #[.slice b' n cb, vC c] w1 fun e w' => (∃ a' cap', e = .returned (.tuple #[.slice a' n cap', .int .i64 0]) ∧ RdI w' a' (rotL (mixL l c) k) ∧ n ≤ cap' ∧ cap' ≤ maxLen) ∧ Gr w1 w') := Lib.hid fun w1 b' cb h => by
        have hl1 : (rotL l k).length = n := by rw [rotL_len l (by omega), hn]
        have h2 := HM.out w1 _ (rotL l k) cb h (by rw [hl1, hn]; exact hlm)
        rw [hmr _ hpr, hl1, rotL_mix] at h2
        have hl : (rotL (mixL l c) k).length = n := by rw [rotL_len _ (by simp [mixL]; omega), hn]; simp [mixL]
        simp only [hl] at h2
        exact h2
      have HLA : Hid (∀ (w1 : World) b' cb, Gr w w1 → RdI w1 b' (mixL l c) → Calls Try.prog 17 #[.slice (some ⟨b, o, none⟩) n cap, .slice b' n cb] w1 fun e w' => e = .returned (.tuple #[vC c, .int .i64 0]) ∧ Gr w1 w') := Lib.hid fun w1 b' cb h hb => by
        have hl : (mixL l c).length = n := by rw [hn]; simp [mixL]
        have h2 := co_Light (ca := cap) (cb := cb) w1 (hr.gr h) hb hlm (by rw [hl, hn]; exact hlm)
        rw [lightE_mix hc hp, hl, ← hn] at h2
        exact h2
      have HLB : Hid (∀ (w1 : World) a' ca b' cb, RdI w1 a' (rotL l k) → RdI w1 b' (rotL (mixL l c) k) → Calls Try.prog 17 #[.slice a' n ca, .slice b' n cb] w1 fun e w' => e = .returned (.tuple #[vC c, .int .i64 0]) ∧ Gr w1 w') := Lib.hid fun w1 a' ca b' cb h hb => by
        have hl1 : (rotL l k).length = n := by rw [rotL_len l (by omega), hn]
        have hl : (rotL (mixL l c) k).length = n := by rw [rotL_len _ (by simp [mixL]; omega), hn]; simp [mixL]
        have h2 := co_Light (ca := ca) (cb := cb) w1 h hb (by rw [hl1, hn]; exact hlm) (by rw [hl, hn]; exact hlm)
        rw [← rotL_mix, lightE_mix hc hpr, rotL_mix, hl, hl1] at h2
        exact h2
      have HEQ : Hid (∀ (w1 : World) a' ca b' cb, RdI w1 a' (rotL (mixL l c) k) → RdI w1 b' (rotL (mixL l c) k) → Calls Try.prog 15 #[.slice a' n ca, .slice b' n cb] w1 fun e w' => e = .returned (.bool true) ∧ Gr w1 w') := Lib.hid fun w1 a' ca b' cb h hb => by
        have hl : (rotL (mixL l c) k).length = n := by rw [rotL_len _ (by simp [mixL]; omega), hn]; simp [mixL]
        have h2 := sl_EqualI a' b' _ _ ca cb w1 h hb (by rw [hl]; omega) (by rw [hl]; omega)
        simp only [decide_true, hl] at h2
        exact h2
      have HN := Lib.hid hn
      have HLL := Lib.hid (show (mixL l c).length = n by rw [hn]; simp [mixL])
      rw [← hn] at HP hcap hlm2 hn0 hn15 ⊢
      obtain ⟨t0, t1⟩ := ht
      have hm2 : cap ≤ 9223372036854775807 := hmax
      clear hn hr hp hpr hmr HM hc hmax hlm
      obtain ⟨x, y, z⟩ := c
      have hvc : vC (x, y, z) = .agg #[.int .i64 x, .int .i64 y, .int .i64 z] := rfl
      rw [hvc]
      clear hvc
      have hkm1 : k ≤ n := by omega
      have hck : ¬ cap = k := by omega
      have hnz : ¬ (n : Int) = 0 := by omega
      have hw8 : wrap64 t = t := by unfold wrap64; omega
      go_enter Try.func8, Try.ntmps8
      go_wp2_with fail
      rw [← HW0.out]
      refine HP.out.mono ?_; rintro e w1 ⟨rfl, hg1⟩
      have HC1 := Lib.hid (HC0.out.gr hg1)
      have HG1 := Lib.hid (HG0.out.trans hg1)
      have c0 := HC1.out.c0
      have c1 := HC1.out.c1
      have c2 := HC1.out.c2
      simp only at c0 c1 c2
      clear hg1 HC0 HG0 HW0 HP
      go_wp2_with fail
      refine (HK.out _).mono ?_; rintro e w2 ⟨rfl, hg2⟩
      have HC2 := Lib.hid (HC1.out.gr hg2)
      have HG2 := Lib.hid (HG1.out.trans hg2)
      clear hg2 c0 c1 c2 HC1 HG1
      go_wp2_with fail
      have hckcap := hck
      have HCC := Lib.hid (concat2 (c := cap) (HR.out.gr HG2.out) HN.out.symm hkn (by omega))
      have hS0 : (fun _ : World => True) w2.drew := trivial
      refine wp_region_held (S := fun _ : World => True) (by kernel_rfl) ?_
      refine wpAnyH_take (i := 0) (v := .slice (some ⟨b, o, none⟩) n cap) rfl (by kernel_rfl) (by kernel_rfl) (by kernel_rfl) (fun _ _ _ h => h) (Or.inl ⟨by rfl, ?_⟩) hS0 ?_
      · intro w hSw; go_simp
      try simp only [Act.put, List.getElem_toArray, List.getElem_cons_succ, List.getElem_cons_zero, List.setIfInBounds_toArray, List.set_cons_zero, List.set_cons_succ]
      refine wpAnyH_take (i := 1) (v := .int .i64 k) rfl (by kernel_rfl) (by kernel_rfl) (by kernel_rfl) (fun _ _ _ h => h) (Or.inl ⟨by rfl, ?_⟩) hS0 ?_
      · intro w hSw; go_simp
      try simp only [Act.put, List.getElem_toArray, List.getElem_cons_succ, List.getElem_cons_zero, List.setIfInBounds_toArray, List.set_cons_zero, List.set_cons_succ]
      refine wpAnyH_take (i := 2) (v := .slice (some ⟨b, o + k, none⟩) (n - k) (cap - k)) rfl (by kernel_rfl) (by kernel_rfl) (by kernel_rfl) (fun _ _ _ h => h) (Or.inl ⟨by rfl, ?_⟩) hS0 ?_
      · intro w hSw; go_simp; try rw [if_pos hkm1, if_neg hckcap]
      try simp only [Act.put, List.getElem_toArray, List.getElem_cons_succ, List.getElem_cons_zero, List.setIfInBounds_toArray, List.set_cons_zero, List.set_cons_succ]
      refine wpAnyH_take (i := 3) (v := .slice (some ⟨b, o, none⟩) n cap) rfl (by kernel_rfl) (by kernel_rfl) (by kernel_rfl) (fun _ _ _ h => h) (Or.inl ⟨by rfl, ?_⟩) hS0 ?_
      · intro w hSw; go_simp
      try simp only [Act.put, List.getElem_toArray, List.getElem_cons_succ, List.getElem_cons_zero, List.setIfInBounds_toArray, List.set_cons_zero, List.set_cons_succ]
      refine wpAnyH_take (i := 4) (v := .int .i64 k) rfl (by kernel_rfl) (by kernel_rfl) (by kernel_rfl) (fun _ _ _ h => h) (Or.inl ⟨by rfl, ?_⟩) hS0 ?_
      · intro w hSw; go_simp
      try simp only [Act.put, List.getElem_toArray, List.getElem_cons_succ, List.getElem_cons_zero, List.setIfInBounds_toArray, List.set_cons_zero, List.set_cons_succ]
      refine wpAnyH_take (i := 5) (v := .slice (some ⟨b, o, none⟩) k cap) rfl (by kernel_rfl) (by kernel_rfl) (by kernel_rfl) (fun _ _ _ h => h) (Or.inl ⟨by rfl, ?_⟩) hS0 ?_
      · intro w hSw; go_simp; intro h; omega
      try simp only [Act.put, List.getElem_toArray, List.getElem_cons_succ, List.getElem_cons_zero, List.setIfInBounds_toArray, List.set_cons_zero, List.set_cons_succ]
      refine wpAnyH_ready (rs := [6]) (by kernel_rfl) (by simp) (AllReadyH.cons rfl (fun K' hK' => ?_) AllReadyH.nil)
      go_simp
      refine hK'.out _ _ trivial (fun hS1 => ?_)
      clear hK' K'
      try simp only [Act.put, List.getElem_toArray, List.getElem_cons_succ, List.getElem_cons_zero, List.setIfInBounds_toArray, List.set_cons_zero, List.set_cons_succ]
      refine wpAnyH_ready (rs := [7]) (by kernel_rfl) (by simp) (AllReadyH.cons rfl (fun K' hK' => ?_) AllReadyH.nil)
      go_simp
      refine HCC.out.mono ?_; rintro e w3 ⟨⟨am, cm, rfl, hrm, hm1, hm3⟩, hg3⟩
      have HRm := Lib.hid hrm
      have HG3 := Lib.hid (HG2.out.trans hg3)
      have HC3 := Lib.hid (HC2.out.gr hg3)
      clear hrm hg3 HCC HG2 HC2
      refine hK'.out _ _ trivial (fun hS2 => ?_)
      clear hK' K'
      try simp only [Act.put, List.getElem_toArray, List.getElem_cons_succ, List.getElem_cons_zero, List.setIfInBounds_toArray, List.set_cons_zero, List.set_cons_succ]
      refine wpAnyH_take (i := 8) (v := .slice am n cm) rfl (by kernel_rfl) (by kernel_rfl) (by kernel_rfl) (fun _ _ _ h => h) (Or.inl ⟨by rfl, ?_⟩) hS2 ?_
      · intro w hSw; go_simp
      try simp only [Act.put, List.getElem_toArray, List.getElem_cons_succ, List.getElem_cons_zero, List.setIfInBounds_toArray, List.set_cons_zero, List.set_cons_succ]
      refine wpAnyH_done (by kernel_rfl) ?_ _
      clear hS0 hS1 hS2
      go_wp2_with (refine wpl_load3 (c := (x, y, z)) rfl rfl rfl HC3.out ?_)
      refine (HMA.out _ HG3.out).mono ?_; rintro e w4 ⟨⟨a4, c4, rfl, hr4, hc4, hc5⟩, hg4⟩
      have HR4 := Lib.hid hr4
      have HRm4 := Lib.hid (HRm.out.gr hg4)
      have HC4 := Lib.hid (HC3.out.gr hg4)
      have HG4 := Lib.hid (HG3.out.trans hg4)
      clear hr4 hg4 HRm HC3 HG3 HMA
      go_wp2_with (refine wpl_load3 (c := (x, y, z)) rfl rfl rfl HC4.out ?_)
      refine (HMB.out _ _ _ HRm4.out).mono ?_; rintro e w5 ⟨⟨a5, c5, rfl, hr5, hd4, hd5⟩, hg5⟩
      have HR5 := Lib.hid hr5
      have hR4' := HR4.out.gr hg5
      obtain ⟨g4, o4, rfl, -⟩ := hR4' 0 (by rw [HLL.out]; omega)
      have HR45 := Lib.hid hR4'
      have HRm5 := Lib.hid (HRm4.out.gr hg5)
      have HG5 := Lib.hid (HG4.out.trans hg5)
      have hckc4 : ¬ c4 = k := by omega
      have hc6 : c4 ≤ 9223372036854775807 := hc5
      have HCC := Lib.hid (concat2 (c := c4) HR45.out HLL.out hkn (by omega))
      clear hr5 hR4' hg5 HR4 HRm4 HC4 HG4 HMB
      go_wp2_with fail
      have hS0 : (fun _ : World => True) w5.drew := trivial
      refine wp_region_held (S := fun _ : World => True) (by kernel_rfl) ?_
      refine wpAnyH_take (i := 0) (v := .int .i64 0) rfl (by kernel_rfl) (by kernel_rfl) (by kernel_rfl) (fun _ _ _ h => h) (Or.inl ⟨by rfl, ?_⟩) hS0 ?_
      · intro w hSw; go_simp
      try simp only [Act.put, List.getElem_toArray, List.getElem_cons_succ, List.getElem_cons_zero, List.setIfInBounds_toArray, List.set_cons_zero, List.set_cons_succ]
      refine wpAnyH_take (i := 1) (v := .bool false) rfl (by kernel_rfl) (by kernel_rfl) (by kernel_rfl) (fun _ _ _ h => h) (Or.inl ⟨by rfl, ?_⟩) hS0 ?_
      · intro w hSw; go_simp
      try simp only [Act.put, List.getElem_toArray, List.getElem_cons_succ, List.getElem_cons_zero, List.setIfInBounds_toArray, List.set_cons_zero, List.set_cons_succ]
      refine wpAnyH_take (i := 2) (v := .bool false) rfl (by kernel_rfl) (by kernel_rfl) (by kernel_rfl) (fun _ _ _ h => h) (Or.inl ⟨by rfl, ?_⟩) hS0 ?_
      · intro w hSw; go_simp
      try simp only [Act.put, List.getElem_toArray, List.getElem_cons_succ, List.getElem_cons_zero, List.setIfInBounds_toArray, List.set_cons_zero, List.set_cons_succ]
      refine wpAnyH_take (i := 3) (v := .int .i64 0) rfl (by kernel_rfl) (by kernel_rfl) (by kernel_rfl) (fun _ _ _ h => h) (Or.inl ⟨by rfl, ?_⟩) hS0 ?_
      · intro w hSw; go_simp
      try simp only [Act.put, List.getElem_toArray, List.getElem_cons_succ, List.getElem_cons_zero, List.setIfInBounds_toArray, List.set_cons_zero, List.set_cons_succ]
      refine wpAnyH_take (i := 4) (v := .bool false) rfl (by kernel_rfl) (by kernel_rfl) (by kernel_rfl) (fun _ _ _ h => h) (Or.inl ⟨by rfl, ?_⟩) hS0 ?_
      · intro w hSw; go_simp
      try simp only [Act.put, List.getElem_toArray, List.getElem_cons_succ, List.getElem_cons_zero, List.setIfInBounds_toArray, List.set_cons_zero, List.set_cons_succ]
      refine wpAnyH_take (i := 5) (v := .bool false) rfl (by kernel_rfl) (by kernel_rfl) (by kernel_rfl) (fun _ _ _ h => h) (Or.inl ⟨by rfl, ?_⟩) hS0 ?_
      · intro w hSw; go_simp
      try simp only [Act.put, List.getElem_toArray, List.getElem_cons_succ, List.getElem_cons_zero, List.setIfInBounds_toArray, List.set_cons_zero, List.set_cons_succ]
      refine wpAnyH_take (i := 6) (v := .bool false) rfl (by kernel_rfl) (by kernel_rfl) (by kernel_rfl) (fun _ _ _ h => h) (Or.inl ⟨by rfl, ?_⟩) hS0 ?_
      · intro w hSw; go_simp
      try simp only [Act.put, List.getElem_toArray, List.getElem_cons_succ, List.getElem_cons_zero, List.setIfInBounds_toArray, List.set_cons_zero, List.set_cons_succ]
      refine wpAnyH_take (i := 7) (v := .slice (some ⟨g4, o4, none⟩) n c4) rfl (by kernel_rfl) (by kernel_rfl) (by kernel_rfl) (fun _ _ _ h => h) (Or.inl ⟨by rfl, ?_⟩) hS0 ?_
      · intro w hSw; go_simp
      try simp only [Act.put, List.getElem_toArray, List.getElem_cons_succ, List.getElem_cons_zero, List.setIfInBounds_toArray, List.set_cons_zero, List.set_cons_succ]
      refine wpAnyH_take (i := 8) (v := .int .i64 n) rfl (by kernel_rfl) (by kernel_rfl) (by kernel_rfl) (fun _ _ _ h => h) (Or.inl ⟨by rfl, ?_⟩) hS0 ?_
      · intro w hSw; go_simp
      try simp only [Act.put, List.getElem_toArray, List.getElem_cons_succ, List.getElem_cons_zero, List.setIfInBounds_toArray, List.set_cons_zero, List.set_cons_succ]
      refine wpAnyH_take (i := 9) (v := .slice (some ⟨b, o, none⟩) n cap) rfl (by kernel_rfl) (by kernel_rfl) (by kernel_rfl) (fun _ _ _ h => h) (Or.inl ⟨by rfl, ?_⟩) hS0 ?_
      · intro w hSw; go_simp
      try simp only [Act.put, List.getElem_toArray, List.getElem_cons_succ, List.getElem_cons_zero, List.setIfInBounds_toArray, List.set_cons_zero, List.set_cons_succ]
      refine wpAnyH_take (i := 10) (v := .int .i64 n) rfl (by kernel_rfl) (by kernel_rfl) (by kernel_rfl) (fun _ _ _ h => h) (Or.inl ⟨by rfl, ?_⟩) hS0 ?_
      · intro w hSw; go_simp
      try simp only [Act.put, List.getElem_toArray, List.getElem_cons_succ, List.getElem_cons_zero, List.setIfInBounds_toArray, List.set_cons_zero, List.set_cons_succ]
      refine wpAnyH_take (i := 11) (v := .bool false) rfl (by kernel_rfl) (by kernel_rfl) (by kernel_rfl) (fun _ _ _ h => h) (Or.inl ⟨by rfl, ?_⟩) hS0 ?_
      · intro w hSw; go_simp
      try simp only [Act.put, List.getElem_toArray, List.getElem_cons_succ, List.getElem_cons_zero, List.setIfInBounds_toArray, List.set_cons_zero, List.set_cons_succ]
      refine wpAnyH_take (i := 12) (v := .bool false) rfl (by kernel_rfl) (by kernel_rfl) (by kernel_rfl) (fun _ _ _ h => h) (Or.inl ⟨by rfl, ?_⟩) hS0 ?_
      · intro w hSw; go_simp
      try simp only [Act.put, List.getElem_toArray, List.getElem_cons_succ, List.getElem_cons_zero, List.setIfInBounds_toArray, List.set_cons_zero, List.set_cons_succ]
      refine wpAnyH_take (i := 13) (v := .bool false) rfl (by kernel_rfl) (by kernel_rfl) (by kernel_rfl) (fun _ _ _ h => h) (Or.inl ⟨by rfl, ?_⟩) hS0 ?_
      · intro w hSw; go_simp
      try simp only [Act.put, List.getElem_toArray, List.getElem_cons_succ, List.getElem_cons_zero, List.setIfInBounds_toArray, List.set_cons_zero, List.set_cons_succ]
      refine wpAnyH_take (i := 14) (v := .slice a5 n c5) rfl (by kernel_rfl) (by kernel_rfl) (by kernel_rfl) (fun _ _ _ h => h) (Or.inl ⟨by rfl, ?_⟩) hS0 ?_
      · intro w hSw; go_simp
      try simp only [Act.put, List.getElem_toArray, List.getElem_cons_succ, List.getElem_cons_zero, List.setIfInBounds_toArray, List.set_cons_zero, List.set_cons_succ]
      refine wpAnyH_take (i := 15) (v := .slice (some ⟨g4, o4, none⟩) n c4) rfl (by kernel_rfl) (by kernel_rfl) (by kernel_rfl) (fun _ _ _ h => h) (Or.inl ⟨by rfl, ?_⟩) hS0 ?_
      · intro w hSw; go_simp
      try simp only [Act.put, List.getElem_toArray, List.getElem_cons_succ, List.getElem_cons_zero, List.setIfInBounds_toArray, List.set_cons_zero, List.set_cons_succ]
      refine wpAnyH_take (i := 16) (v := .int .i64 k) rfl (by kernel_rfl) (by kernel_rfl) (by kernel_rfl) (fun _ _ _ h => h) (Or.inl ⟨by rfl, ?_⟩) hS0 ?_
      · intro w hSw; go_simp
      try simp only [Act.put, List.getElem_toArray, List.getElem_cons_succ, List.getElem_cons_zero, List.setIfInBounds_toArray, List.set_cons_zero, List.set_cons_succ]
      refine wpAnyH_take (i := 17) (v := .slice (some ⟨g4, o4 + k, none⟩) (n - k) (c4 - k)) rfl (by kernel_rfl) (by kernel_rfl) (by kernel_rfl) (fun _ _ _ h => h) (Or.inl ⟨by rfl, ?_⟩) hS0 ?_
      · intro w hSw; go_simp; try rw [if_pos hkm1, if_neg hckc4]
      try simp only [Act.put, List.getElem_toArray, List.getElem_cons_succ, List.getElem_cons_zero, List.setIfInBounds_toArray, List.set_cons_zero, List.set_cons_succ]
      refine wpAnyH_take (i := 18) (v := .slice (some ⟨g4, o4, none⟩) n c4) rfl (by kernel_rfl) (by kernel_rfl) (by kernel_rfl) (fun _ _ _ h => h) (Or.inl ⟨by rfl, ?_⟩) hS0 ?_
      · intro w hSw; go_simp
      try simp only [Act.put, List.getElem_toArray, List.getElem_cons_succ, List.getElem_cons_zero, List.setIfInBounds_toArray, List.set_cons_zero, List.set_cons_succ]
      refine wpAnyH_take (i := 19) (v := .int .i64 k) rfl (by kernel_rfl) (by kernel_rfl) (by kernel_rfl) (fun _ _ _ h => h) (Or.inl ⟨by rfl, ?_⟩) hS0 ?_
      · intro w hSw; go_simp
      try simp only [Act.put, List.getElem_toArray, List.getElem_cons_succ, List.getElem_cons_zero, List.setIfInBounds_toArray, List.set_cons_zero, List.set_cons_succ]
      refine wpAnyH_take (i := 20) (v := .slice (some ⟨g4, o4, none⟩) k c4) rfl (by kernel_rfl) (by kernel_rfl) (by kernel_rfl) (fun _ _ _ h => h) (Or.inl ⟨by rfl, ?_⟩) hS0 ?_
      · intro w hSw; go_simp; intro h; omega
      try simp only [Act.put, List.getElem_toArray, List.getElem_cons_succ, List.getElem_cons_zero, List.setIfInBounds_toArray, List.set_cons_zero, List.set_cons_succ]
      refine wpAnyH_ready (rs := [21]) (by kernel_rfl) (by simp) (AllReadyH.cons rfl (fun K' hK' => ?_) AllReadyH.nil)
      go_simp
      refine hK'.out _ _ trivial (fun hS1 => ?_)
      clear hK' K'
      try simp only [Act.put, List.getElem_toArray, List.getElem_cons_succ, List.getElem_cons_zero, List.setIfInBounds_toArray, List.set_cons_zero, List.set_cons_succ]
      refine wpAnyH_ready (rs := [22]) (by kernel_rfl) (by simp) (AllReadyH.cons rfl (fun K' hK' => ?_) AllReadyH.nil)
      go_simp
      refine HCC.out.mono ?_; rintro e w6 ⟨⟨a6, c6, rfl, hr6, hm6, hm7⟩, hg6⟩
      have HR6 := Lib.hid hr6
      have HG6 := Lib.hid hg6
      clear hr6 hg6 HCC
      refine hK'.out _ _ trivial (fun hS2 => ?_)
      clear hK' K'
      try simp only [Act.put, List.getElem_toArray, List.getElem_cons_succ, List.getElem_cons_zero, List.setIfInBounds_toArray, List.set_cons_zero, List.set_cons_succ]
      refine wpAnyH_ready (rs := [23]) (by kernel_rfl) (by simp) (AllReadyH.cons rfl (fun K' hK' => ?_) AllReadyH.nil)
      go_simp
      refine (HEQ.out _ _ _ _ _ (HR5.out.gr HG6.out) HR6.out).mono ?_; rintro e w7 ⟨rfl, hg7⟩
      have HG7 := Lib.hid (HG6.out.trans hg7)
      clear hg7 HR6 HG6
      refine hK'.out _ _ trivial (fun hS3 => ?_)
      clear hK' K'
      try simp only [Act.put, List.getElem_toArray, List.getElem_cons_succ, List.getElem_cons_zero, List.setIfInBounds_toArray, List.set_cons_zero, List.set_cons_succ]
      refine wpAnyH_take (i := 24) (v := .bool false) rfl (by kernel_rfl) (by kernel_rfl) (by kernel_rfl) (fun _ _ _ h => h) (Or.inl ⟨by rfl, ?_⟩) hS3 ?_
      · intro w hSw; go_simp
      try simp only [Act.put, List.getElem_toArray, List.getElem_cons_succ, List.getElem_cons_zero, List.setIfInBounds_toArray, List.set_cons_zero, List.set_cons_succ]
      refine wpAnyH_take (i := 25) (v := .bool false) rfl (by kernel_rfl) (by kernel_rfl) (by kernel_rfl) (fun _ _ _ h => h) (Or.inl ⟨by rfl, ?_⟩) hS3 ?_
      · intro w hSw; go_simp
      try simp only [Act.put, List.getElem_toArray, List.getElem_cons_succ, List.getElem_cons_zero, List.setIfInBounds_toArray, List.set_cons_zero, List.set_cons_succ]
      refine wpAnyH_done (by kernel_rfl) ?_ _
      clear hS0 hS1 hS2 hS3
      have HR47 := Lib.hid (HR45.out.gr HG7.out)
      have HR57 := Lib.hid (HR5.out.gr HG7.out)
      have HRm7 := Lib.hid (HRm5.out.gr HG7.out)
      have HG8 := Lib.hid (HG5.out.trans HG7.out)
      clear HR45 HR5 HRm5 HG5 HG7
      go_wp2_with fail
      refine (HLA.out _ _ _ HG8.out HR47.out).mono ?_; rintro e w8 ⟨rfl, hg8⟩
      obtain ⟨w9, hw⟩ : ∃ v, v = (w8.alloc (.cells #[.int .i64 0, .int .i64 0, .int .i64 0] 23)).setRow w8.heap.size #[.int .i64 x, .int .i64 y, .int .i64 z] := ⟨_, rfl⟩
      have HH1 := Lib.hid (show C3At w9 w8.heap.size (x, y, z) by rw [hw]; exact (C3At.new w8 (0, 0, 0)).row (x, y, z))
      have HX1 := Lib.hid (show Gr w8 w9 by rw [hw]; exact ((Gr.refl _).alloc (.cells #[.int .i64 0, .int .i64 0, .int .i64 0] 23)).row (g := w8.heap.size) (Nat.le_refl _) _)
      have HW1 := Lib.hid hw
      clear hw
      have HG9 := Lib.hid ((HG8.out.trans hg8).trans HX1.out)
      have HR59 := Lib.hid ((HR57.out.gr hg8).gr HX1.out)
      have HRm9 := Lib.hid ((HRm7.out.gr hg8).gr HX1.out)
      clear hg8 HR47 HR57 HRm7 HG8 HX1
      go_wp2_with (refine wpl_store3 (c := (x, y, z)) rfl rfl rfl rfl (C3At.new w8 (0, 0, 0)) ?_; rw [← HW1.out])
      refine (HLB.out _ _ _ _ _ HRm9.out HR59.out).mono ?_; rintro e w10 ⟨rfl, hg10⟩
      obtain ⟨w11, hw⟩ : ∃ v, v = (w10.alloc (.cells #[.int .i64 0, .int .i64 0, .int .i64 0] 23)).setRow w10.heap.size #[.int .i64 x, .int .i64 y, .int .i64 z] := ⟨_, rfl⟩
      have HH2 := Lib.hid (show C3At w11 w10.heap.size (x, y, z) by rw [hw]; exact (C3At.new w10 (0, 0, 0)).row (x, y, z))
      have HX2 := Lib.hid (show Gr w10 w11 by rw [hw]; exact ((Gr.refl _).alloc (.cells #[.int .i64 0, .int .i64 0, .int .i64 0] 23)).row (g := w10.heap.size) (Nat.le_refl _) _)
      have HW2 := Lib.hid hw
      clear hw
      have h1 := (HH1.out.gr hg10).gr HX2.out
      have h2 := HH2.out
      have HG11 := Lib.hid ((HG9.out.trans hg10).trans HX2.out)
      have a0 := h1.c0
      have a1 := h1.c1
      have a2 := h1.c2
      have b0 := h2.c0
      have b1 := h2.c1
      have b2 := h2.c2
      simp only at a0 a1 a2 b0 b1 b2
      have heq := run_eq3'
      clear h1 h2 hg10 HH1 HH2 HX2 HG9 HR59 HRm9 HW1 HLA HLB
      go_wp2_with (refine wpl_store3 (c := (x, y, z)) rfl rfl rfl rfl (C3At.new w10 (0, 0, 0)) ?_; rw [← HW2.out])
      refine (l11_awake _).mono ?_; rintro e w12 ⟨rfl, hg12⟩
      have HG12 := Lib.hid (HG11.out.trans hg12)
      clear hg12
      go_wp2
      go_ret
      exact ⟨rfl, HG12.out⟩
    · have hcf : isC c = false := by cases h : isC c; rfl; exact absurd h hc
      rw [hcf] at HK
      clear HM HR hp hc hcf hcap hr hlm hmax
      generalize l.length = n at *
      obtain ⟨x, y, z⟩ := c
      have hvc : vC (x, y, z) = .agg #[.int .i64 x, .int .i64 y, .int .i64 z] := rfl
      rw [hvc]
      clear hvc
      go_enter Try.func8, Try.ntmps8
      go_wp2_with fail
      rw [← HW0.out]
      refine HP.out.mono ?_; rintro e w1 ⟨rfl, hg1⟩
      have HC1 := HC0.out.gr hg1
      have HG1 := Lib.hid (HG0.out.trans hg1)
      have c0 := HC1.c0
      have c1 := HC1.c1
      have c2 := HC1.c2
      simp only at c0 c1 c2
      clear hg1 HC0 HG0 HW0 HP HC1
      go_wp2_with fail
      refine (HK.out _).mono ?_; rintro e w2 ⟨rfl, hg2⟩
      have HG2 := Lib.hid (HG1.out.trans hg2)
      clear hg2 c0 c1 c2 HG1
      go_wp2_with fail
      refine (l11_awake _).mono ?_; rintro e w9 ⟨rfl, hg9⟩
      have HG9 := Lib.hid (HG2.out.trans hg9)
      clear hg9
      go_wp2
      go_ret
      exact ⟨rfl, HG9.out⟩
  · have hz : (palR l != 0) = true := by simp [hp]
    clear HM HR HK hcap hr hlm hmax
    generalize palR l = E at *
    generalize l.length = n at *
    obtain ⟨x, y, z⟩ := c
    have hvc : vC (x, y, z) = .agg #[.int .i64 x, .int .i64 y, .int .i64 z] := rfl
    rw [hvc]
    clear hvc
    go_enter Try.func8, Try.ntmps8
    go_wp2_with fail
    rw [← HW0.out]
    refine HP.out.mono ?_; rintro e w1 ⟨rfl, hg1⟩
    have HG1 := Lib.hid (HG0.out.trans hg1)
    clear hg1
    go_wp2_with fail
    refine (l11_awake _).mono ?_; rintro e w9 ⟨rfl, hg9⟩
    have HG9 := Lib.hid (HG1.out.trans hg9)
    clear hg9
    go_wp2
    go_ret
    exact ⟨rfl, HG9.out⟩
end Go.Proofs.Ytipfofdjngnkpaa
