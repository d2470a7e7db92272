/- Law 7: classes of bytes. -/
import Derived.Test.YtlcpfhgobfjioaaDoorLxA
set_option linter.unusedVariables false
set_option linter.unusedSimpArgs false
namespace Go.Proofs.YtlcpfhgobfjioaaDoor
open Go.RowKit Go.Shelf
open Z
/-- a class in a world, and in all that come of it but for what the block b holds: it tells of each byte whether p holds -/
structure ClsF (b : Nat) (w : World) (id : FuncId) (caps : Array Value) (p : UInt8 → Bool) : Prop where
  ent : ∀ args w, (callFunc id args).run Tryd.prog w = .ok (.enter id args) w
  run : ∀ w', Upd b w w' → ∀ c : UInt8, Calls Tryd.prog id (#[.int .u8 (c.toNat : Int)] ++ caps) w' fun e w2 => e = .returned (.bool (p c)) ∧ Gr w' w2
def ClsAt (b : Nat) (w : World) (v : Value) (p : UInt8 → Bool) : Prop := ∃ id caps, v = .func (.func id) #[] caps ∧ ClsF b w id caps p
theorem ClsAt.upd {b : Nat} {w w' : World} {v : Value} {p : UInt8 → Bool} (h : ClsAt b w v p) (hu : Upd b w w') : ClsAt b w' v p := by
  obtain ⟨id, caps, rfl, h1, h2⟩ := h
  exact ⟨id, caps, rfl, h1, fun w2 hg c => h2 w2 (hu.trans hg) c⟩
theorem cell_upd {b n o : Nat} {w w' : World} {v : Value} (h : w.cell? ⟨n, o, none⟩ = some v) (hu : Upd b w w') (hne : n ≠ b) : w'.cell? ⟨n, o, none⟩ = some v := by
  have e := hu.2.1 n (cellLt h) hne
  unfold World.cell? at h ⊢
  rw [e]; exact h
theorem bool_le (x y : Int) : decide (x ≤ y) = true ∨ decide (x ≤ y) = false := by cases decide (x ≤ y) <;> simp
set_option maxRecDepth 100000 in
set_option maxHeartbeats 1000000 in
theorem lx_between1 (n1 n2 lo hi : Nat) (c : UInt8) (w : World) (h1 : w.cell? ⟨n1, 0, none⟩ = some (.int .u8 (lo : Nat))) (h2 : w.cell? ⟨n2, 0, none⟩ = some (.int .u8 (hi : Nat))) :
    Calls Tryd.prog 95 #[.int .u8 (c.toNat : Int), .pointer (some ⟨n1, 0, none⟩), .pointer (some ⟨n2, 0, none⟩)] w fun e w' => e = .returned (.bool (decide (lo ≤ c.toNat) && decide (c.toNat ≤ hi))) ∧ Gr w w' := by
  generalize c.toNat = m at *
  by_cases k1 : lo ≤ m
  · rw [decide_eq_true k1]
    have j1 : decide (lo ≤ m) = true := decide_eq_true k1
    by_cases k2 : m ≤ hi
    · rw [decide_eq_true k2]
      have j2 : decide (m ≤ hi) = true := decide_eq_true k2
      go_enter Tryd.func95, Tryd.ntmps95
      go_wp2
      go_ret
      exact ⟨rfl, Gr.refl w⟩
    · rw [decide_eq_false k2]
      have j2 : decide (m ≤ hi) = false := decide_eq_false k2
      go_enter Tryd.func95, Tryd.ntmps95
      go_wp2
      go_ret
      exact ⟨rfl, Gr.refl w⟩
  · rw [decide_eq_false k1]
    have j1 : decide (lo ≤ m) = false := decide_eq_false k1
    go_enter Tryd.func95, Tryd.ntmps95
    go_wp2
    go_ret
    exact ⟨rfl, Gr.refl w⟩
set_option maxRecDepth 100000 in
set_option maxHeartbeats 1000000 in
theorem lx_between (b : Nat) (lo hi : Nat) (w : World) (hb : b < w.heap.size) :
    Calls Tryd.prog 88 #[.int .u8 (lo : Nat), .int .u8 (hi : Nat)] w fun e w' => ∃ v, e = .returned v ∧ ClsAt b w' v (fun c => decide (lo ≤ c.toNat) && decide (c.toNat ≤ hi)) ∧ Gr w w' := by
  have HG := (Gr.refl w).alloc (.cells #[.int .u8 (lo : Nat)] 5)
  have HG2 := HG.alloc (.cells #[.int .u8 (hi : Nat)] 5)
  have k1 : ((w.alloc (.cells #[.int .u8 (lo : Nat)] 5)).alloc (.cells #[.int .u8 (hi : Nat)] 5)).cell? ⟨w.heap.size, 0, none⟩ = some (.int .u8 (lo : Nat)) := by
    rw [World.cell?_alloc_lt _ _ _ (by simp), World.cell?_alloc_at _ _ _ _ rfl]; rfl
  have k2 : ((w.alloc (.cells #[.int .u8 (lo : Nat)] 5)).alloc (.cells #[.int .u8 (hi : Nat)] 5)).cell? ⟨w.heap.size + 1, 0, none⟩ = some (.int .u8 (hi : Nat)) := by
    rw [show w.heap.size + 1 = (w.alloc (.cells #[.int .u8 (lo : Nat)] 5)).heap.size from (World.size_alloc _ _).symm, World.cell?_alloc_at _ _ _ _ rfl]; rfl
  have K1 := Lib.hid k1
  have K2 := Lib.hid k2
  have K3 := Lib.hid HG2
  clear k1 k2 HG HG2
  go_enter Tryd.func88, Tryd.ntmps88
  go_wp2
  go_ret
  refine ⟨_, rfl, ⟨95, _, rfl, enters_of Tryd.func95 (by kernel_rfl) rfl, fun w2 hu c => ?_⟩, K3.out⟩
  exact lx_between1 _ _ lo hi c w2 (cell_upd K1.out hu (by omega)) (cell_upd K2.out hu (by omega))
set_option maxRecDepth 100000 in
set_option maxHeartbeats 1000000 in
theorem lx_oneOf1 (n1 : Nat) (t : ByteArray) (c : UInt8) (w : World) (h1 : w.cell? ⟨n1, 0, none⟩ = some (.string t)) :
    Calls Tryd.prog 75 #[.int .u8 (c.toNat : Int), .pointer (some ⟨n1, 0, none⟩)] w fun e w' => e = .returned (.bool (decide (0 ≤ Lib.indexByte t.data.toList c))) ∧ Gr w w' := by
  have HI := Lib.hid (Tryd.strings_IndexByte t (c.toNat : Int) w)
  have hc : ((c.toNat : Int)).toNat.toUInt8 = c := by simp
  rw [hc] at HI
  clear hc
  generalize Lib.indexByte t.data.toList c = q at *
  generalize (c.toNat : Int) = m at *
  by_cases k : 0 ≤ q
  · rw [decide_eq_true k]
    have j : decide (0 ≤ q) = true := decide_eq_true k
    go_enter Tryd.func75, Tryd.ntmps75
    go_wp2_with fail
    refine HI.out.mono ?_; rintro e w2 ⟨rfl, rfl⟩
    go_wp2
    go_ret
    exact ⟨rfl, Gr.refl _⟩
  · rw [decide_eq_false k]
    have j : decide (0 ≤ q) = false := decide_eq_false k
    go_enter Tryd.func75, Tryd.ntmps75
    go_wp2_with fail
    refine HI.out.mono ?_; rintro e w2 ⟨rfl, rfl⟩
    go_wp2
    go_ret
    exact ⟨rfl, Gr.refl _⟩
set_option maxRecDepth 100000 in
set_option maxHeartbeats 1000000 in
theorem lx_oneOf (b : Nat) (t : ByteArray) (w : World) (hb : b < w.heap.size) :
    Calls Tryd.prog 57 #[.string t] w fun e w' => ∃ v, e = .returned v ∧ ClsAt b w' v (fun c => decide (0 ≤ Lib.indexByte t.data.toList c)) ∧ Gr w w' := by
  have HG := (Gr.refl w).alloc (.cells #[.string t] 9)
  have k1 : (w.alloc (.cells #[.string t] 9)).cell? ⟨w.heap.size, 0, none⟩ = some (.string t) := by
    rw [World.cell?_alloc_at _ _ _ _ rfl]; rfl
  have K1 := Lib.hid k1
  have K3 := Lib.hid HG
  clear k1 HG
  go_enter Tryd.func57, Tryd.ntmps57
  go_wp2
  go_ret
  refine ⟨_, rfl, ⟨75, _, rfl, enters_of Tryd.func75 (by kernel_rfl) rfl, fun w2 hu c => ?_⟩, K3.out⟩
  exact lx_oneOf1 _ t c w2 (cell_upd K1.out hu (by omega))
set_option maxRecDepth 100000 in
set_option maxHeartbeats 1000000 in
theorem lx_or1 (b n1 n2 : Nat) (v1 v2 : Value) (p q : UInt8 → Bool) (c : UInt8) (w : World) (h1 : w.cell? ⟨n1, 0, none⟩ = some v1) (h2 : w.cell? ⟨n2, 0, none⟩ = some v2) (c1 : ClsAt b w v1 p) (c2 : ClsAt b w v2 q) :
    Calls Tryd.prog 96 #[.int .u8 (c.toNat : Int), .pointer (some ⟨n1, 0, none⟩), .pointer (some ⟨n2, 0, none⟩)] w fun e w' => e = .returned (.bool (p c || q c)) ∧ Gr w w' := by
  obtain ⟨i1, k1, rfl, e1, r1⟩ := c1
  obtain ⟨i2, k2, rfl, e2, r2⟩ := c2
  have R1 := Lib.hid (r1 w (Upd.refl b w) c)
  have R2 := Lib.hid (fun w' (hg : Gr w w') => r2 w' (Upd.of_gr hg) c)
  have H2 := Lib.hid h2
  clear r1 r2 h2
  generalize p c = x at *
  generalize q c = y at *
  generalize (c.toNat : Int) = cc at *
  go_enter Tryd.func96, Tryd.ntmps96
  go_wp2_with fail
  refine R1.out.mono ?_; rintro e w2 ⟨rfl, hg⟩
  have HG := Lib.hid hg
  have h3 := cell_gr hg H2.out
  clear hg R1
  cases x
  · go_wp2_with fail
    refine (R2.out _ HG.out).mono ?_; rintro e w3 ⟨rfl, hg⟩
    have HG3 := Lib.hid (Gr.trans HG.out hg)
    clear hg
    go_wp2
    go_ret
    exact ⟨by first | rfl | simp, HG3.out⟩
  · go_wp2
    go_ret
    exact ⟨rfl, HG.out⟩
set_option maxRecDepth 100000 in
set_option maxHeartbeats 1000000 in
theorem lx_or (b : Nat) (v1 v2 : Value) (p q : UInt8 → Bool) (w : World) (c1 : ClsAt b w v1 p) (c2 : ClsAt b w v2 q) (hb : b < w.heap.size) :
    Calls Tryd.prog 89 #[v1, v2] w fun e w' => ∃ v, e = .returned v ∧ ClsAt b w' v (fun c => p c || q c) ∧ Gr w w' := by
  have HG := (Gr.refl w).alloc (.cells #[v1] 102)
  have HG2 := HG.alloc (.cells #[v2] 102)
  have k1 : ((w.alloc (.cells #[v1] 102)).alloc (.cells #[v2] 102)).cell? ⟨w.heap.size, 0, none⟩ = some v1 := by
    rw [World.cell?_alloc_lt _ _ _ (by simp), World.cell?_alloc_at _ _ _ _ rfl]; rfl
  have k2 : ((w.alloc (.cells #[v1] 102)).alloc (.cells #[v2] 102)).cell? ⟨w.heap.size + 1, 0, none⟩ = some v2 := by
    rw [show w.heap.size + 1 = (w.alloc (.cells #[v1] 102)).heap.size from (World.size_alloc _ _).symm, World.cell?_alloc_at _ _ _ _ rfl]; rfl
  have K1 := Lib.hid k1
  have K2 := Lib.hid k2
  have K3 := Lib.hid HG2
  have L1 := Lib.hid (c1.upd (Upd.of_gr HG2))
  have L2 := Lib.hid (c2.upd (Upd.of_gr HG2))
  obtain ⟨i1, g1, rfl, -⟩ := c1
  obtain ⟨i2, g2, rfl, -⟩ := c2
  clear k1 k2 HG HG2
  go_enter Tryd.func89, Tryd.ntmps89
  go_wp2
  go_ret
  refine ⟨_, rfl, ⟨96, _, rfl, enters_of Tryd.func96 (by kernel_rfl) rfl, fun w2 hu c => ?_⟩, K3.out⟩
  exact lx_or1 b _ _ _ _ p q c w2 (cell_upd K1.out hu (by omega)) (cell_upd K2.out hu (by omega)) (L1.out.upd hu) (L2.out.upd hu)
set_option maxRecDepth 100000 in
set_option maxHeartbeats 1000000 in
theorem lx_but1 (b n1 n2 : Nat) (v1 v2 : Value) (p q : UInt8 → Bool) (c : UInt8) (w : World) (h1 : w.cell? ⟨n1, 0, none⟩ = some v1) (h2 : w.cell? ⟨n2, 0, none⟩ = some v2) (c1 : ClsAt b w v1 p) (c2 : ClsAt b w v2 q) :
    Calls Tryd.prog 97 #[.int .u8 (c.toNat : Int), .pointer (some ⟨n1, 0, none⟩), .pointer (some ⟨n2, 0, none⟩)] w fun e w' => e = .returned (.bool (p c && !q c)) ∧ Gr w w' := by
  obtain ⟨i1, k1, rfl, e1, r1⟩ := c1
  obtain ⟨i2, k2, rfl, e2, r2⟩ := c2
  have R1 := Lib.hid (r1 w (Upd.refl b w) c)
  have R2 := Lib.hid (fun w' (hg : Gr w w') => r2 w' (Upd.of_gr hg) c)
  have H2 := Lib.hid h2
  clear r1 r2 h2
  generalize p c = x at *
  generalize q c = y at *
  generalize (c.toNat : Int) = cc at *
  go_enter Tryd.func97, Tryd.ntmps97
  go_wp2_with fail
  refine R1.out.mono ?_; rintro e w2 ⟨rfl, hg⟩
  have HG := Lib.hid hg
  have h3 := cell_gr hg H2.out
  clear hg R1
  cases x
  · go_wp2
    go_ret
    exact ⟨rfl, HG.out⟩
  · go_wp2_with fail
    refine (R2.out _ HG.out).mono ?_; rintro e w3 ⟨rfl, hg⟩
    have HG3 := Lib.hid (Gr.trans HG.out hg)
    clear hg
    cases y
    all_goals
      go_wp2
      go_ret
      exact ⟨rfl, HG3.out⟩
set_option maxRecDepth 100000 in
set_option maxHeartbeats 1000000 in
theorem lx_but (b : Nat) (v1 v2 : Value) (p q : UInt8 → Bool) (w : World) (c1 : ClsAt b w v1 p) (c2 : ClsAt b w v2 q) (hb : b < w.heap.size) :
    Calls Tryd.prog 90 #[v1, v2] w fun e w' => ∃ v, e = .returned v ∧ ClsAt b w' v (fun c => p c && !q c) ∧ Gr w w' := by
  have HG := (Gr.refl w).alloc (.cells #[v1] 102)
  have HG2 := HG.alloc (.cells #[v2] 102)
  have k1 : ((w.alloc (.cells #[v1] 102)).alloc (.cells #[v2] 102)).cell? ⟨w.heap.size, 0, none⟩ = some v1 := by
    rw [World.cell?_alloc_lt _ _ _ (by simp), World.cell?_alloc_at _ _ _ _ rfl]; rfl
  have k2 : ((w.alloc (.cells #[v1] 102)).alloc (.cells #[v2] 102)).cell? ⟨w.heap.size + 1, 0, none⟩ = some v2 := by
    rw [show w.heap.size + 1 = (w.alloc (.cells #[v1] 102)).heap.size from (World.size_alloc _ _).symm, World.cell?_alloc_at _ _ _ _ rfl]; rfl
  have K1 := Lib.hid k1
  have K2 := Lib.hid k2
  have K3 := Lib.hid HG2
  have L1 := Lib.hid (c1.upd (Upd.of_gr HG2))
  have L2 := Lib.hid (c2.upd (Upd.of_gr HG2))
  obtain ⟨i1, g1, rfl, -⟩ := c1
  obtain ⟨i2, g2, rfl, -⟩ := c2
  clear k1 k2 HG HG2
  go_enter Tryd.func90, Tryd.ntmps90
  go_wp2
  go_ret
  refine ⟨_, rfl, ⟨97, _, rfl, enters_of Tryd.func97 (by kernel_rfl) rfl, fun w2 hu c => ?_⟩, K3.out⟩
  exact lx_but1 b _ _ _ _ p q c w2 (cell_upd K1.out hu (by omega)) (cell_upd K2.out hu (by omega)) (L1.out.upd hu) (L2.out.upd hu)
end Go.Proofs.YtlcpfhgobfjioaaDoor
