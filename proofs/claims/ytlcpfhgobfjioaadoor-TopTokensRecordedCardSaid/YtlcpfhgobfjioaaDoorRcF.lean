/- Records: Next of the program. -/
import Derived.Test.YtlcpfhgobfjioaaDoorRcE
set_option linter.unusedVariables false
set_option linter.unusedSimpArgs false
namespace Go.Proofs.YtlcpfhgobfjioaaDoor
open Go.RowKit
open Z Rc

/-- a record in a block of its own -/
structure EB (w : World) (n : Nat) (k : Int) (d : ByteArray) : Prop where
  c0 : w.cell? ⟨n, 0, none⟩ = some (.int .i64 k)
  c1 : w.cell? ⟨n, 1, none⟩ = some (.string d)
  f0 : w.frozen? ⟨n, 0, none⟩ = false
  f1 : w.frozen? ⟨n, 1, none⟩ = false
theorem EB.new (w : World) (k : Int) (d : ByteArray) (ty : TypeId) : EB (w.alloc (.cells #[.int .i64 k, .string d] ty)) w.heap.size k d :=
  ⟨by rw [World.cell?_alloc_at _ _ _ _ rfl]; rfl, by rw [World.cell?_alloc_at _ _ _ _ rfl]; rfl, World.frozen?_alloc_at _ _ _ _ rfl, World.frozen?_alloc_at _ _ _ _ rfl⟩
theorem EB.gr {w w' : World} {n : Nat} {k : Int} {d : ByteArray} (h : EB w n k d) (hg : Gr w w') : EB w' n k d := by
  have hl : n < w.heap.size := cell_lt h.c0
  have e := hg.block n hl
  refine ⟨?_, ?_, ?_, ?_⟩
  · have := h.c0; unfold World.cell? at this ⊢; rw [e]; exact this
  · have := h.c1; unfold World.cell? at this ⊢; rw [e]; exact this
  · have := h.f0; unfold World.frozen? at this ⊢; rw [e]; exact this
  · have := h.f1; unfold World.frozen? at this ⊢; rw [e]; exact this
theorem EB.store {w : World} {n : Nat} {k : Int} {d : ByteArray} (h : EB w n k d) (k' : Int) (d' : ByteArray) : EB ((w.setCell ⟨n, 0, none⟩ (.int .i64 k')).setCell ⟨n, 1, none⟩ (.string d')) n k' d' :=
  ⟨(World.cell?_setCell_other _ _ _ _ (by simp)).trans (World.cell?_setCell_same _ _ _ h.c0), World.cell?_setCell_same _ _ _ ((World.cell?_setCell_other _ _ _ _ (by simp)).trans h.c1),
    by rw [World.frozen?_setCell, World.frozen?_setCell]; exact h.f0, by rw [World.frozen?_setCell, World.frozen?_setCell]; exact h.f1⟩
theorem Gr.store {w0 w : World} {n : Nat} (h : Gr w0 w) (hn : w0.heap.size ≤ n) (v v' : Value) : Gr w0 ((w.setCell ⟨n, 0, none⟩ v).setCell ⟨n, 1, none⟩ v') := by
  refine Below.setCell (Below.setCell h ?_ _) ?_ _ <;> exact hn
def nV (r : E × Int × Int) : Value := .tuple #[vE r.1, .int .i64 r.2.1, .int .i64 r.2.2]
theorem nxAt_bad (l : List UInt8) (a : Int) (h : (decide (0 ≤ a) && decide (a ≤ (l.length : Int))) = false) : nxAt l a = ((0, .empty), 0, 2) := by
  unfold nxAt
  rw [if_pos]
  simp only [Bool.and_eq_false_iff, decide_eq_false_iff_not] at h
  omega
theorem nxAt_in (l : List UInt8) (p : Nat) (h : p ≤ l.length) : nxAt l p = if (nx (l.drop p)).2.2 = 0 then ((nx (l.drop p)).1, (p : Int) + ((nx (l.drop p)).2.1 : Nat), 0) else ((0, .empty), 0, (nx (l.drop p)).2.2) := by
  unfold nxAt
  rw [if_neg (by omega)]
  simp
/-- the ways of a record that begins a text -/
theorem nx_cases (r : ByteArray) : let n := 256 * bt r.data.toList 1 + bt r.data.toList 2
    (r.size < 5 + n ∧ nx r.data.toList = ((0, .empty), 0, 20)) ∨
    (5 + n ≤ r.size ∧ 256 * bt r.data.toList (3 + n) + bt r.data.toList (4 + n) ≠ sm (r.extract 0 (3 + n)).data.toList ∧ nx r.data.toList = ((0, .empty), 0, 17)) ∨
    (5 + n ≤ r.size ∧ 256 * bt r.data.toList (3 + n) + bt r.data.toList (4 + n) = sm (r.extract 0 (3 + n)).data.toList ∧ nx r.data.toList = ((((bt r.data.toList 0 : Nat) : Int), r.extract 3 (3 + n)), 5 + n, 0)) := by
  intro n
  have hsz : r.data.toList.length = r.size := by simp
  have e1 : (r.extract 0 (3 + n)).data.toList = r.data.toList.take (3 + n) := by rw [Lib.extract_data, List.drop_zero, Nat.sub_zero]
  have e2 : r.extract 3 (3 + n) = bs ((r.data.toList.take (3 + n)).drop 3) := by
    apply ba_ext
    rw [data_bs, Lib.extract_data, List.drop_take]
  have hb : bt r.data.toList 1 < 256 ∧ bt r.data.toList 2 < 256 := ⟨bt_lt _ _, bt_lt _ _⟩
  unfold nx
  rw [hsz, e1, e2]
  show _ ∨ _ ∨ _
  by_cases h5 : r.size < 5
  · left; exact ⟨by omega, by rw [if_pos h5]⟩
  · rw [if_neg h5]
    by_cases h6 : r.size < 5 + n
    · left; exact ⟨h6, by show (if r.size < 5 + n then _ else _) = _; rw [if_pos h6]⟩
    · right
      by_cases h7 : 256 * bt r.data.toList (3 + n) + bt r.data.toList (4 + n) ≠ sm (r.data.toList.take (3 + n))
      · left; refine ⟨by omega, h7, ?_⟩
        show (if r.size < 5 + n then _ else if 256 * bt r.data.toList (3 + n) + bt r.data.toList (4 + n) ≠ sm (r.data.toList.take (3 + n)) then _ else _) = _
        rw [if_neg h6, if_pos h7]
      · right; refine ⟨by omega, by omega, ?_⟩
        show (if r.size < 5 + n then _ else if 256 * bt r.data.toList (3 + n) + bt r.data.toList (4 + n) ≠ sm (r.data.toList.take (3 + n)) then _ else _) = _
        rw [if_neg h6, if_neg h7]
theorem bt_ext (r : ByteArray) (i j : Nat) : bt (r.extract i r.size).data.toList j = bt r.data.toList (i + j) := by
  rw [ext_drop']
  unfold bt
  rw [List.getD_eq_getElem?_getD, List.getElem?_drop, ← List.getD_eq_getElem?_getD]
set_option maxHeartbeats 4000000 in
set_option maxRecDepth 100000 in
theorem rc_Next (s : ByteArray) (a : Int) (w : World) (hs : s.size ≤ maxLen) :
    Calls Tryd.prog 24 #[.string s, .int .i64 a] w fun e w' => e = .returned (nV (nxAt s.data.toList a)) ∧ Gr w w' := by
  have hsz : s.data.toList.length = s.size := by simp
  have HO := Lib.hid (fun w => rc_isOffset s a w)
  have HB := Lib.hid (EB.new w 0 ⟨#[]⟩ 54)
  have HG := Lib.hid ((Gr.refl w).alloc (.cells #[.int .i64 0, .string ⟨#[]⟩] 54))
  obtain ⟨c0, c1, f0, f1⟩ := id HB.out
  obtain ⟨d0, d1, -, -⟩ := id (HB.out.store 0 ⟨#[]⟩)
  have HGS := Lib.hid (HG.out.store (n := w.heap.size) (Nat.le_refl _) (.int .i64 0) (.string ⟨#[]⟩))
  cases hb : (decide (0 ≤ a) && decide (a ≤ (s.size : Int)))
  · rw [nxAt_bad _ _ (by rw [hsz]; exact hb)]
    unfold nV vE
    simp only []
    rw [hb] at HO
    clear hb
    go_enter Tryd.func24, Tryd.ntmps24
    go_wp2_with fail
    refine (HO.out _).mono ?_; rintro e w' ⟨rfl, rfl⟩
    go_wp2
    refine bodyPost_ret (v := .tuple #[.agg #[.int .i64 0, .string ⟨#[]⟩], .int .i64 0, .int .i64 2]) ?_ rfl ⟨rfl, HG.out⟩
    simp [results, Tryd.results24, go_sem, c0, c1]
  · rw [hb] at HO
    simp only [Bool.and_eq_true, decide_eq_true_eq] at hb
    obtain ⟨p, rfl⟩ : ∃ k : Nat, a = k := ⟨a.toNat, by omega⟩
    have hp : p ≤ s.size := by omega
    clear hb
    rw [nxAt_in _ _ (by omega)]
    unfold maxLen at hs
    have hrs : (s.extract p s.size).size = s.size - p := by rw [ByteArray.size_extract]; omega
    have HRD := ext_drop' s p
    rw [← HRD]
    clear HRD
    obtain ⟨r, hX⟩ : ∃ r, s.extract p s.size = r := ⟨_, rfl⟩
    rw [hX] at hrs ⊢
    have hrb : r.size ≤ s.size := by omega
    have hpr : p + r.size ≤ s.size := by omega
    clear hrs
    have HC := nx_cases r
    have HN1 := bt_ext r 1 0
    have HN2 := bt_ext r 1 1
    by_cases h3 : r.size < 3
    · have hR : nx r.data.toList = ((0, .empty), 0, 20) := by
        rcases HC with ⟨_, h⟩ | ⟨h, _⟩ | ⟨h, _⟩
        · exact h
        · exact absurd h (by omega)
        · exact absurd h (by omega)
      rw [hR]
      clear hR HC HN1 HN2
      unfold nV vE
      simp only []
      rw [if_neg (by decide)]
      go_enter Tryd.func24, Tryd.ntmps24
      go_wp2_with fail
      refine (HO.out _).mono ?_; rintro e w' ⟨rfl, rfl⟩
      go_wp2
      refine bodyPost_ret (v := .tuple #[.agg #[.int .i64 0, .string ⟨#[]⟩], .int .i64 0, .int .i64 20]) ?_ rfl ⟨rfl, HG.out⟩
      simp [results, Tryd.results24, go_sem, c0, c1]
    · have H1 := Lib.hid (fun w => rc_ofPair (r.extract 1 r.size) w (by rw [ByteArray.size_extract]; omega))
      rw [HN1, HN2] at H1
      have hn1 := bt_lt r.data.toList 1
      have hn2 := bt_lt r.data.toList 2
      generalize hn : 256 * bt r.data.toList 1 + bt r.data.toList 2 = n at *
      have hnb : n < 65536 := by omega
      simp only [] at HC
      clear HN1 HN2 hn1 hn2 hn
      rcases HC with ⟨hlt, hR⟩ | ⟨hle, hne, hR⟩ | ⟨hle, heq, hR⟩
      · rw [hR]
        clear hR
        unfold nV vE
        simp only []
        rw [if_neg (by decide)]
        have hlt' : (r.size : Int) < 3 + (n : Int) + 2 := by omega
        clear hlt
        go_enter Tryd.func24, Tryd.ntmps24
        go_wp2_with fail
        refine (HO.out _).mono ?_; rintro e w' ⟨rfl, rfl⟩
        go_wp2_with fail
        refine (H1.out _).mono ?_; rintro e w1 ⟨rfl, hg1⟩
        have HB1 := Lib.hid (HB.out.gr hg1)
        have HG1 := Lib.hid (Gr.trans HG.out hg1)
        clear c0 c1 f0 f1 d0 d1 hg1 HGS HG HB
        obtain ⟨c0, c1, f0, f1⟩ := id HB1.out
        obtain ⟨d0, d1, -, -⟩ := id (HB1.out.store (0) ⟨#[]⟩)
        have HGS1 := Lib.hid (HG1.out.store (n := w.heap.size) (Nat.le_refl _) (.int .i64 (0)) (.string ⟨#[]⟩))
        go_wp2
        refine bodyPost_ret (v := .tuple #[.agg #[.int .i64 (0), .string ⟨#[]⟩], .int .i64 (0), .int .i64 20]) ?_ rfl ⟨by rfl, HGS1.out⟩
        simp [results, Tryd.results24, go_sem, d0, d1]
      · rw [hR]
        clear hR
        unfold nV vE
        simp only []
        rw [if_neg (by decide)]
        have C1 := Lib.hid (fun w => rc_ofPair (r.extract (3 + n) r.size) w (by rw [ByteArray.size_extract]; omega))
        rw [bt_ext, bt_ext, Nat.add_zero, show 3 + n + 1 = 4 + n by omega] at C1
        have C2 := Lib.hid (fun w => rc_Sum (r.extract 0 (3 + n)) w (by rw [ByteArray.size_extract]; unfold maxLen; omega))
        have hneb : ((256 * bt r.data.toList (3 + n) + bt r.data.toList (4 + n) : Nat) : Int) ≠ ((sm (r.extract 0 (3 + n)).data.toList : Nat) : Int) := by omega
        have hv1 := bt_lt r.data.toList (3 + n)
        have hv2 := bt_lt r.data.toList (4 + n)
        have hv3 := sm_lt (r.extract 0 (3 + n)).data.toList
        clear hne
        generalize hv : 256 * bt r.data.toList (3 + n) + bt r.data.toList (4 + n) = v at *
        generalize sm (r.extract 0 (3 + n)).data.toList = S at *
        have hvb : v < 65536 := by omega
        clear hv1 hv2 hv
        have hneb' : ((v : Int) != (S : Int)) = true := by simpa using hneb
        have hle1 : 3 + (n : Int) ≤ (r.size : Int) := by omega
        have hle2 : (0 : Int) ≤ 3 + (n : Int) := by omega
        have hle3 : ¬ (r.size : Int) < 3 + (n : Int) + 2 := by omega
        clear hneb hle
        go_enter Tryd.func24, Tryd.ntmps24
        go_wp2_with fail
        refine (HO.out _).mono ?_; rintro e w' ⟨rfl, rfl⟩
        go_wp2_with fail
        refine (H1.out _).mono ?_; rintro e w1 ⟨rfl, hg1⟩
        have HB1 := Lib.hid (HB.out.gr hg1)
        have HG1 := Lib.hid (Gr.trans HG.out hg1)
        clear c0 c1 f0 f1 d0 d1 hg1 HGS HG HB
        go_wp2_with fail
        go_region_held3 (fun w' => True) (trivial) (first
          | (go_at_call 50; refine (C1.out _).mono ?_; rintro e w6 ⟨rfl, h6⟩)
          | (go_at_call 48; refine (C2.out _).mono ?_; rintro e w7 ⟨rfl, rfl⟩))
        have HB2 := Lib.hid ((HB1.out.gr (Gr.drew (Gr.refl _))).gr h6)
        have HG2 := Lib.hid (Gr.trans HG1.out.drew h6)
        clear h6
        obtain ⟨c0, c1, f0, f1⟩ := id HB2.out
        obtain ⟨d0, d1, -, -⟩ := id (HB2.out.store (0) ⟨#[]⟩)
        have HGS1 := Lib.hid (HG2.out.store (n := w.heap.size) (Nat.le_refl _) (.int .i64 (0)) (.string ⟨#[]⟩))
        go_wp2
        refine bodyPost_ret (v := .tuple #[.agg #[.int .i64 (0), .string ⟨#[]⟩], .int .i64 (0), .int .i64 17]) ?_ rfl ⟨by rfl, HGS1.out⟩
        simp [results, Tryd.results24, go_sem, d0, d1]
      · rw [hR]
        clear hR
        unfold nV vE
        simp only []
        rw [if_pos (by decide)]
        have C1 := Lib.hid (fun w => rc_ofPair (r.extract (3 + n) r.size) w (by rw [ByteArray.size_extract]; omega))
        rw [bt_ext, bt_ext, Nat.add_zero, show 3 + n + 1 = 4 + n by omega] at C1
        have C2 := Lib.hid (fun w => rc_Sum (r.extract 0 (3 + n)) w (by rw [ByteArray.size_extract]; unfold maxLen; omega))
        have heqb : (((256 * bt r.data.toList (3 + n) + bt r.data.toList (4 + n) : Nat) : Int) != ((sm (r.extract 0 (3 + n)).data.toList : Nat) : Int)) = false := by rw [heq]; simp
        have hv3 := sm_lt (r.extract 0 (3 + n)).data.toList
        generalize 256 * bt r.data.toList (3 + n) + bt r.data.toList (4 + n) = v at *
        generalize sm (r.extract 0 (3 + n)).data.toList = S at *
        have hvb : v < 65536 := by omega
        clear heq
        have hg0 : (r[0].toNat : Int) = (bt r.data.toList 0 : Nat) := by rw [get_bt]
        have hc0 := bt_lt r.data.toList 0
        generalize bt r.data.toList 0 = k at *
        have hle1 : 3 + (n : Int) ≤ (r.size : Int) := by omega
        have hle2 : (0 : Int) ≤ 3 + (n : Int) := by omega
        have hle3 : ¬ (r.size : Int) < 3 + (n : Int) + 2 := by omega
        have hle4 : (3 : Int) ≤ 3 + (n : Int) := by omega
        have hr0 : 0 < r.size := by omega
        have hpn : p + (5 + n) ≤ 9223372036854775807 := by omega
        clear hle
        go_enter Tryd.func24, Tryd.ntmps24
        go_wp2_with fail
        refine (HO.out _).mono ?_; rintro e w' ⟨rfl, rfl⟩
        go_wp2_with fail
        refine (H1.out _).mono ?_; rintro e w1 ⟨rfl, hg1⟩
        have HB1 := Lib.hid (HB.out.gr hg1)
        have HG1 := Lib.hid (Gr.trans HG.out hg1)
        clear c0 c1 f0 f1 d0 d1 hg1 HGS HG HB
        go_wp2_with fail
        go_region_held3 (fun w' => True) (trivial) (first
          | (go_at_call 50; refine (C1.out _).mono ?_; rintro e w6 ⟨rfl, h6⟩)
          | (go_at_call 48; refine (C2.out _).mono ?_; rintro e w7 ⟨rfl, rfl⟩))
        have HB2 := Lib.hid ((HB1.out.gr (Gr.drew (Gr.refl _))).gr h6)
        have HG2 := Lib.hid (Gr.trans HG1.out.drew h6)
        clear h6
        obtain ⟨c0, c1, f0, f1⟩ := id HB2.out
        obtain ⟨d0, d1, -, -⟩ := id (HB2.out.store (k) (r.extract 3 (3 + n)))
        go_wp2_with fail
        clear hpr
        have HGS1 := Lib.hid (HG2.out.store (n := w.heap.size) (Nat.le_refl _) (.int .i64 (k : Int)) (.string (r.extract 3 (3 + n)))).drew
        go_region
        go_wp2
        refine bodyPost_ret (v := .tuple #[.agg #[.int .i64 (k : Int), .string (r.extract 3 (3 + n))], .int .i64 ((p : Int) + (3 + (n : Int)) + 2), .int .i64 0]) ?_ rfl ⟨by rw [show (p : Int) + ((5 + n : Nat) : Int) = (p : Int) + (3 + (n : Int)) + 2 by omega], HGS1.out⟩
        simp [results, Tryd.results24, go_sem, d0, d1]
end Go.Proofs.YtlcpfhgobfjioaaDoor
