/- Records: Next of the reference. -/
import Derived.Test.YtebniicnaofdoaaRcF
set_option linter.unusedVariables false
set_option linter.unusedSimpArgs false
namespace Go.Proofs.Ytebniicnaofdoaa
open Go.RowKit
open Z Rc

theorem ext_ext (s : ByteArray) (p i j : Nat) (h : p + j ≤ s.size) : (s.extract p s.size).extract i j = s.extract (p + i) (p + j) := by
  apply ba_ext
  rw [Lib.extract_data, ext_drop', Lib.extract_data, List.drop_drop]
  congr 1; omega
theorem bt_at (s : ByteArray) (p i : Nat) : bt (s.extract p s.size).data.toList i = bt s.data.toList (p + i) := bt_ext s p i
theorem two_ext (r : ByteArray) (m : Nat) (h : m + 2 ≤ r.size) : r.extract m (m + 2) = str (two (256 * bt r.data.toList m + bt r.data.toList (m + 1))) := by
  have hsz : r.data.toList.length = r.size := by simp
  apply ba_ext
  rw [Lib.extract_data, data_str, show m + 2 - m = 1 + 1 by omega, List.take_succ_eq_append_getElem (by rw [List.length_drop]; omega), List.take_succ_eq_append_getElem (by rw [List.length_drop]; omega), List.take_zero]
  have b0 := bt_lt r.data.toList m
  have b1 := bt_lt r.data.toList (m + 1)
  unfold two
  rw [show (256 * bt r.data.toList m + bt r.data.toList (m + 1)) / 256 = bt r.data.toList m by omega, show (256 * bt r.data.toList m + bt r.data.toList (m + 1)) % 256 = bt r.data.toList (m + 1) by omega, by8_bt (by omega), by8_bt (by omega)]
  simp [List.getElem_drop]
theorem two_inj {a b : Nat} (ha : a < 65536) (hb : b < 65536) (h : str (two a) = str (two b)) : a = b := by
  have e : two a = two b := by have := congrArg (fun x : ByteArray => x.data.toList) h; simpa [data_str] using this
  have h1 := two_bt ha
  have h2 := two_bt hb
  rw [e] at h1
  omega
set_option maxHeartbeats 4000000 in
set_option maxRecDepth 100000 in
theorem r8_Next (s : ByteArray) (a : Int) (w : World) (hs : s.size ≤ maxLen) :
    Calls Try.prog 28 #[.string s, .int .i64 a] w fun e w' => e = .returned (nV (nxAt s.data.toList a)) ∧ Gr w w' := by
  have hsz : s.data.toList.length = s.size := by simp
  have HO := Lib.hid (fun w => r8_place s a w)
  have HB := Lib.hid (EB.new w 0 ⟨#[]⟩ 44)
  have HG := Lib.hid ((Gr.refl w).alloc (.cells #[.int .i64 0, .string ⟨#[]⟩] 44))
  obtain ⟨c0, c1, f0, f1⟩ := id HB.out
  obtain ⟨d0, d1, -, -⟩ := id (HB.out.store 0 ⟨#[]⟩)
  cases hb : (decide (0 ≤ a) && decide (a ≤ (s.size : Int)))
  · rw [nxAt_bad _ _ (by rw [hsz]; exact hb)]
    unfold nV vE
    simp only []
    rw [hb] at HO
    clear hb
    go_enter Try.func28, Try.ntmps28
    go_wp2_with fail
    refine (HO.out _).mono ?_; rintro e w' ⟨rfl, rfl⟩
    go_wp2
    refine bodyPost_ret (v := .tuple #[.agg #[.int .i64 0, .string ⟨#[]⟩], .int .i64 0, .int .i64 2]) ?_ rfl ⟨rfl, HG.out⟩
    simp [results, Try.results28, go_sem, c0, c1]
  · rw [hb] at HO
    simp only [Bool.and_eq_true, decide_eq_true_eq] at hb
    obtain ⟨p, rfl⟩ : ∃ k : Nat, a = k := ⟨a.toNat, by omega⟩
    have hp : p ≤ s.size := by omega
    clear hb
    rw [nxAt_in _ _ (by omega)]
    unfold maxLen at hs
    have hrs : (s.extract p s.size).size = s.size - p := by rw [ByteArray.size_extract]; omega
    have HRD := ext_drop' s p
    rw [← HRD]
    clear HRD
    have HC := nx_cases (s.extract p s.size)
    rw [hrs] at HC
    have hsub : (s.size : Int) - (p : Int) = ((s.size - p : Nat) : Int) := by omega
    by_cases h5 : s.size - p < 5
    · have hR : nx (s.extract p s.size).data.toList = ((0, .empty), 0, 20) := by
        rcases HC with ⟨_, h⟩ | ⟨h, _⟩ | ⟨h, _⟩
        · exact h
        · exact absurd h (by omega)
        · exact absurd h (by omega)
      rw [hR]
      clear hR HC hrs hsub
      have h5' : (s.size : Int) - (p : Int) < 5 := by omega
      clear h5
      unfold nV vE
      simp only []
      rw [if_neg (by decide)]
      go_enter Try.func28, Try.ntmps28
      go_wp2_with fail
      refine (HO.out _).mono ?_; rintro e w' ⟨rfl, rfl⟩
      go_wp2
      refine bodyPost_ret (v := .tuple #[.agg #[.int .i64 0, .string ⟨#[]⟩], .int .i64 0, .int .i64 20]) ?_ rfl ⟨rfl, HG.out⟩
      simp [results, Try.results28, go_sem, c0, c1]
    · have q1 : p + 1 < s.size := by omega
      have q2 : p + 2 < s.size := by omega
      have hg1 : ((s[p + 1]'q1).toNat : Int) = (bt s.data.toList (p + 1) : Nat) := by rw [get_bt]
      have hg2 : ((s[p + 2]'q2).toNat : Int) = (bt s.data.toList (p + 2) : Nat) := by rw [get_bt]
      have hn1 := bt_lt s.data.toList (p + 1)
      have hn2 := bt_lt s.data.toList (p + 2)
      have HB1 := bt_at s p 1
      have HB2 := bt_at s p 2
      rw [HB1, HB2] at HC
      clear HB1 HB2
      generalize bt s.data.toList (p + 1) = n1 at *
      generalize bt s.data.toList (p + 2) = n2 at *
      obtain ⟨n, hn⟩ : ∃ n, 256 * n1 + n2 = n := ⟨_, rfl⟩
      rw [hn] at HC
      have hnI : 256 * (n1 : Int) + (n2 : Int) = (n : Int) := by omega
      have hnb : n < 65536 := by omega
      simp only [] at HC
      clear hn hn1 hn2
      have h5' : ¬ (s.size : Int) - (p : Int) < 5 := by omega
      have i1 : (p : Int) + 1 < (s.size : Int) := by omega
      have i2 : (p : Int) + 2 < (s.size : Int) := by omega
      have i3 : (0 : Int) ≤ (p : Int) + 1 := by omega
      have i4 : (0 : Int) ≤ (p : Int) + 2 := by omega
      rcases HC with ⟨hlt, hR⟩ | ⟨hle, hne, hR⟩ | ⟨hle, heq, hR⟩
      · rw [hR]
        clear hR
        unfold nV vE
        simp only []
        rw [if_neg (by decide)]
        have hlt' : (s.size : Int) - (p : Int) < 5 + (n : Int) := by omega
        clear hlt hsub hrs h5
        go_enter Try.func28, Try.ntmps28
        go_wp2_with fail
        refine (HO.out _).mono ?_; rintro e w' ⟨rfl, rfl⟩
        go_wp2
        go_quiet (fail)
        generalize hW1 : World.drewN _ _ = W1
        have HB1 : Hid (EB W1 w.heap.size 0 ⟨#[]⟩) := by rw [← hW1]; exact HB.out.gr (below_drewN (Gr.refl _) _)
        have HG1 : Hid (Gr w W1) := by rw [← hW1]; exact below_drewN HG.out _
        clear hW1 c0 c1 f0 f1 d0 d1 HB HG
        obtain ⟨c0, c1, f0, f1⟩ := id HB1.out
        obtain ⟨d0, d1, -, -⟩ := id (HB1.out.store (0) ⟨#[]⟩)
        have HGS := Lib.hid (HG1.out.store (n := w.heap.size) (Nat.le_refl _) (.int .i64 (0)) (.string ⟨#[]⟩))
        go_wp2
        refine bodyPost_ret (v := .tuple #[.agg #[.int .i64 (0), .string ⟨#[]⟩], .int .i64 (0), .int .i64 20]) ?_ rfl ⟨by rfl, HGS.out⟩
        simp [results, Try.results28, go_sem, d0, d1]
      · rw [hR]
        clear hR
        unfold nV vE
        simp only []
        rw [if_neg (by decide)]
        have HE1 := ext_ext s p 0 (3 + n) (by omega)
        have HE2 := ext_ext s p (3 + n) (3 + n + 2) (by omega)
        have HT := two_ext (s.extract p s.size) (3 + n) (by rw [hrs]; omega)
        rw [show 3 + n + 1 = 4 + n by omega] at HT
        rw [HE1, Nat.add_zero] at hne
        rw [HE2] at HT
        have C1 := Lib.hid (fun w => r8_Sum (s.extract p (p + (3 + n))) w (by rw [ByteArray.size_extract]; unfold maxLen; omega))
        have hS := sm_lt (s.extract p (p + (3 + n))).data.toList
        have hv1 := bt_lt (s.extract p s.size).data.toList (3 + n)
        have hv2 := bt_lt (s.extract p s.size).data.toList (4 + n)
        have C2 := Lib.hid (fun w => r8_two (sm (s.extract p (p + (3 + n))).data.toList) w hS)
        have hneq : str (two (256 * bt (s.extract p s.size).data.toList (3 + n) + bt (s.extract p s.size).data.toList (4 + n))) ≠ str (two (sm (s.extract p (p + (3 + n))).data.toList)) := fun e => hne (two_inj (by omega) hS e)
        rw [← HT] at hneq
        have hneqb : ((s.extract (p + (3 + n)) (p + (3 + n + 2))).toList == (str (two (sm (s.extract p (p + (3 + n))).data.toList))).toList) = false := by
          rw [beq_eq_false_iff_ne]; intro e
          exact hneq (ba_ext (by rw [← ByteArray.toList_eq, ← ByteArray.toList_eq]; exact e))
        clear hv1 hv2 HT hne HE1 HE2
        generalize sm (s.extract p (p + (3 + n))).data.toList = S at *
        have j1 : (p : Int) + (3 + (n : Int)) ≤ (s.size : Int) := by omega
        have j2 : (p : Int) + 3 + (n : Int) ≤ (s.size : Int) := by omega
        have j3 : (p : Int) + 5 + (n : Int) ≤ (s.size : Int) := by omega
        have j4 : (0 : Int) ≤ (p : Int) + 3 + (n : Int) := by omega
        have j5 : (p : Int) + 3 + (n : Int) ≤ (p : Int) + 5 + (n : Int) := by omega
        have j6 : (p : Int) ≤ (p : Int) + 3 + (n : Int) := by omega
        have j7 : (0 : Int) ≤ (p : Int) := by omega
        have j8 : (0 : Int) ≤ (p : Int) + 5 + (n : Int) := by omega
        have hlt' : ¬ (s.size : Int) - (p : Int) < 5 + (n : Int) := by omega
        clear hle hsub hrs h5
        go_enter Try.func28, Try.ntmps28
        go_wp2_with fail
        refine (HO.out _).mono ?_; rintro e w' ⟨rfl, rfl⟩
        go_wp2
        go_quiet (fail)
        generalize hW1 : World.drewN _ _ = W1
        have HB1 : Hid (EB W1 w.heap.size 0 ⟨#[]⟩) := by rw [← hW1]; exact HB.out.gr (below_drewN (Gr.refl _) _)
        have HG1 : Hid (Gr w W1) := by rw [← hW1]; exact below_drewN HG.out _
        clear hW1 c0 c1 f0 f1 d0 d1 HB HG
        go_wp2_with fail
        have g1 : Gr w W1.drew := HG1.out.drew
        have hw1 : IntKind.i64.wrap ((p : Int) + 3) = (p : Int) + 3 := IntWalk.i64_in _ (by omega)
        have hw2 : IntKind.i64.wrap ((p : Int) + 3 + (n : Int)) = (p : Int) + 3 + (n : Int) := IntWalk.i64_in _ (by omega)
        have hw3 : IntKind.i64.wrap ((p : Int) + 5) = (p : Int) + 5 := IntWalk.i64_in _ (by omega)
        have hw4 : IntKind.i64.wrap ((p : Int) + 5 + (n : Int)) = (p : Int) + 5 + (n : Int) := IntWalk.i64_in _ (by omega)
        have ht1 : ((p : Int) + 3 + (n : Int)).toNat = p + (3 + n) := by omega
        have ht2 : ((p : Int) + 5 + (n : Int)).toNat = p + (3 + n + 2) := by omega
        go_region_held3 (fun w' => True) (trivial) (first
          | (go_at_call 23; refine (C1.out _).mono ?_; rintro e w7 ⟨rfl, rfl⟩)
          | (go_at_call 45; refine (C2.out _).mono ?_; rintro e w6 ⟨rfl, h6⟩))
        have HB2 := Lib.hid ((HB1.out.gr (Gr.drew (Gr.refl _))).gr h6)
        have HG2 := Lib.hid (Gr.trans g1 h6)
        clear h6 g1
        obtain ⟨c0, c1, f0, f1⟩ := id HB2.out
        obtain ⟨d0, d1, -, -⟩ := id (HB2.out.store (0) ⟨#[]⟩)
        have HGS := Lib.hid (HG2.out.store (n := w.heap.size) (Nat.le_refl _) (.int .i64 (0)) (.string ⟨#[]⟩))
        go_wp2
        refine bodyPost_ret (v := .tuple #[.agg #[.int .i64 (0), .string ⟨#[]⟩], .int .i64 (0), .int .i64 17]) ?_ rfl ⟨by rfl, HGS.out⟩
        simp [results, Try.results28, go_sem, d0, d1]
      · rw [hR]
        clear hR
        unfold nV vE
        simp only []
        rw [if_pos (by decide)]
        have HE1 := ext_ext s p 0 (3 + n) (by omega)
        have HE2 := ext_ext s p (3 + n) (3 + n + 2) (by omega)
        have HT := two_ext (s.extract p s.size) (3 + n) (by rw [hrs]; omega)
        rw [show 3 + n + 1 = 4 + n by omega] at HT
        rw [HE1, Nat.add_zero] at heq
        rw [HE2] at HT
        have C1 := Lib.hid (fun w => r8_Sum (s.extract p (p + (3 + n))) w (by rw [ByteArray.size_extract]; unfold maxLen; omega))
        have hS := sm_lt (s.extract p (p + (3 + n))).data.toList
        have hv1 := bt_lt (s.extract p s.size).data.toList (3 + n)
        have hv2 := bt_lt (s.extract p s.size).data.toList (4 + n)
        have C2 := Lib.hid (fun w => r8_two (sm (s.extract p (p + (3 + n))).data.toList) w hS)
        rw [heq] at HT
        have HX3 := ext_ext s p 3 (3 + n) (by omega)
        rw [HX3]
        have q0 : p < s.size := by omega
        have hg0 : ((s[p]'q0).toNat : Int) = (bt s.data.toList p : Nat) := by rw [get_bt]
        have hk0 := bt_at s p 0
        rw [Nat.add_zero] at hk0
        rw [hk0]
        have hkb := bt_lt s.data.toList p
        generalize bt s.data.toList p = k at *
        have i0 : (p : Int) < (s.size : Int) := by omega
        have j9 : (0 : Int) ≤ (p : Int) + 3 := by omega
        have j10 : (p : Int) + 3 ≤ (p : Int) + 3 + (n : Int) := by omega
        have ht3 : ((p : Int) + 3).toNat = p + 3 := by omega
        clear hv1 hv2 heq HE1 HE2 HX3 hk0
        generalize sm (s.extract p (p + (3 + n))).data.toList = S at *
        have j1 : (p : Int) + (3 + (n : Int)) ≤ (s.size : Int) := by omega
        have j2 : (p : Int) + 3 + (n : Int) ≤ (s.size : Int) := by omega
        have j3 : (p : Int) + 5 + (n : Int) ≤ (s.size : Int) := by omega
        have j4 : (0 : Int) ≤ (p : Int) + 3 + (n : Int) := by omega
        have j5 : (p : Int) + 3 + (n : Int) ≤ (p : Int) + 5 + (n : Int) := by omega
        have j6 : (p : Int) ≤ (p : Int) + 3 + (n : Int) := by omega
        have j7 : (0 : Int) ≤ (p : Int) := by omega
        have j8 : (0 : Int) ≤ (p : Int) + 5 + (n : Int) := by omega
        have hlt' : ¬ (s.size : Int) - (p : Int) < 5 + (n : Int) := by omega
        clear hle hsub hrs h5
        go_enter Try.func28, Try.ntmps28
        go_wp2_with fail
        refine (HO.out _).mono ?_; rintro e w' ⟨rfl, rfl⟩
        go_wp2
        go_quiet (fail)
        generalize hW1 : World.drewN _ _ = W1
        have HB1 : Hid (EB W1 w.heap.size 0 ⟨#[]⟩) := by rw [← hW1]; exact HB.out.gr (below_drewN (Gr.refl _) _)
        have HG1 : Hid (Gr w W1) := by rw [← hW1]; exact below_drewN HG.out _
        clear hW1 c0 c1 f0 f1 d0 d1 HB HG
        go_wp2_with fail
        have g1 : Gr w W1.drew := HG1.out.drew
        have hw1 : IntKind.i64.wrap ((p : Int) + 3) = (p : Int) + 3 := IntWalk.i64_in _ (by omega)
        have hw2 : IntKind.i64.wrap ((p : Int) + 3 + (n : Int)) = (p : Int) + 3 + (n : Int) := IntWalk.i64_in _ (by omega)
        have hw3 : IntKind.i64.wrap ((p : Int) + 5) = (p : Int) + 5 := IntWalk.i64_in _ (by omega)
        have hw4 : IntKind.i64.wrap ((p : Int) + 5 + (n : Int)) = (p : Int) + 5 + (n : Int) := IntWalk.i64_in _ (by omega)
        have ht1 : ((p : Int) + 3 + (n : Int)).toNat = p + (3 + n) := by omega
        have ht2 : ((p : Int) + 5 + (n : Int)).toNat = p + (3 + n + 2) := by omega
        go_region_held3 (fun w' => True) (trivial) (first
          | (go_at_call 23; refine (C1.out _).mono ?_; rintro e w7 ⟨rfl, rfl⟩)
          | (go_at_call 45; refine (C2.out _).mono ?_; rintro e w6 ⟨rfl, h6⟩))
        have HB2 := Lib.hid ((HB1.out.gr (Gr.drew (Gr.refl _))).gr h6)
        have HG2 := Lib.hid (Gr.trans g1 h6)
        clear h6 g1
        obtain ⟨c0, c1, f0, f1⟩ := id HB2.out
        obtain ⟨d0, d1, -, -⟩ := id (HB2.out.store ((k : Int)) (s.extract (p + 3) (p + (3 + n))))
        have HGS := Lib.hid (HG2.out.store (n := w.heap.size) (Nat.le_refl _) (.int .i64 ((k : Int))) (.string (s.extract (p + 3) (p + (3 + n)))))
        go_wp2_with fail
        have HF := HGS.out.drew
        have HGF := Lib.hid HF
        clear HF HGS
        go_region
        go_wp2
        refine bodyPost_ret (v := .tuple #[.agg #[.int .i64 (k : Int), .string (s.extract (p + 3) (p + (3 + n)))], .int .i64 ((p : Int) + 5 + (n : Int)), .int .i64 0]) ?_ rfl ⟨by rw [show (p : Int) + ((5 + n : Nat) : Int) = (p : Int) + 5 + (n : Int) by omega], HGF.out⟩
        simp [results, Try.results28, go_sem, d0, d1]
end Go.Proofs.Ytebniicnaofdoaa
