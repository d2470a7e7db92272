/- Law 11: slices.Equal of ints; the lists of the examples. -/
import Derived.Test.YtipfofdjngnkpaaCoV
import Derived.Test.YtipfofdjngnkpaaCoS
set_option linter.unusedVariables false
set_option linter.unusedSimpArgs false
namespace Go.Proofs.Ytipfofdjngnkpaa
open Go.RowKit
open Z
set_option maxHeartbeats 1000000 in
set_option maxRecDepth 100000 in
theorem sl_EqualI (a b : Option Addr) (L M : List Int) (ca cb : Nat) (w : World) (hL : RdI w a L) (hM : RdI w b M) (hl : L.length ≤ 9223372036854775807) (hm : M.length ≤ 9223372036854775807) :
    Calls Try.prog 15 #[.slice a L.length ca, .slice b M.length cb] w fun e w' => e = .returned (.bool (decide (L = M))) ∧ Gr w w' := by
  have HL := Lib.hid hL
  have HM := Lib.hid hM
  clear hL hM
  by_cases hlm : L.length = M.length
  · obtain ⟨n, hn⟩ : ∃ n, L.length = n := ⟨_, rfl⟩
    have HN := Lib.hid hn
    have HN2 := Lib.hid (hlm.symm.trans hn)
    rw [hn] at hl
    rw [hn, hlm.symm.trans hn]
    clear hlm hn hm
    obtain ⟨V, hV⟩ : ∃ V, decide (L = M) = V := ⟨_, rfl⟩
    rw [hV]
    have HV := Lib.hid hV
    clear hV
    go_enter Try.func15, Try.ntmps15
    go_wp2
    go_loopw [13] (fun i wr => ∃ j : Nat, i = .int .i64 j ∧ j ≤ n ∧ Hid (∀ k (h : k < L.length) (h' : k < M.length), k < j → L[k] = M[k]) ∧ Hid (Gr w wr)) (fun i _ => n - (intOf i).toNat)
    case atStart => exact ⟨0, rfl, Nat.zero_le _, Lib.hid (fun k _ _ h => absurd h (by omega)), Lib.hid (Gr.refl w)⟩
    case round =>
      obtain ⟨j, rfl, hj, HP, HG⟩ := hrel
      by_cases hlt : j < n
      · have j1 : j < L.length := by rw [HN.out]; exact hlt
        have j2 : j < M.length := by rw [HN2.out]; exact hlt
        obtain ⟨p, o, rfl, c0⟩ := (HL.out.gr HG.out) j j1
        obtain ⟨q, r, rfl, c1⟩ := (HM.out.gr HG.out) j j2
        by_cases he : L[j] = M[j]
        · have HP3 : Hid (∀ k (h : k < L.length) (h' : k < M.length), k < j + 1 → L[k] = M[k]) := Lib.hid fun k h h' hkj => by
            by_cases e : k = j
            · subst e; exact he
            · exact HP.out k h h' (by omega)
          rw [← he] at c1
          generalize L[j] = x at *
          clear he HP
          go_wp2_with fail
          go_region
          have HG3 := Lib.hid HG.out.drew
          go_wp2
          go_roundw
          case rel => exact ⟨j + 1, by go_num, by omega, HP3, HG3⟩
          case measure => simp [intOf]; omega
        · have hv : V = false := by rw [← HV.out, decide_eq_false_iff_not]; rintro rfl; exact he rfl
          subst hv
          generalize L[j] = x at *
          generalize M[j] = y at *
          clear HP HV
          go_wp2_with fail
          go_region
          have HG3 := Lib.hid HG.out.drew
          go_wp2
          go_ret
          exact ⟨rfl, HG3.out⟩
      · have hv : V = true := by
          rw [← HV.out, decide_eq_true_iff]
          refine List.ext_getElem (HN.out.trans HN2.out.symm) fun k h1 h2 => HP.out k h1 h2 ?_
          have := HN.out; omega
        subst hv
        clear HP HV
        go_wp2
        go_ret
        exact ⟨rfl, HG.out⟩
  · rw [decide_eq_false (fun e => hlm (by rw [e]))]
    generalize L.length = n at *
    generalize M.length = m at *
    go_enter Try.func15, Try.ntmps15
    go_wp2
    go_ret
    exact ⟨rfl, Gr.refl w⟩
set_option maxRecDepth 100000 in
set_option maxHeartbeats 1000000 in
theorem lw_white (w : World) : Calls Try.prog 36 #[] w fun e w' => (∃ a, e = .returned (.slice a 4 4) ∧ RdI w' a [3, 4, 5, 6]) ∧ Gr w w' := by
  go_enter Try.func36, Try.ntmps36
  go_wp2
  go_ret
  refine ⟨⟨some ⟨w.heap.size, 0, none⟩, rfl, fun k hk => ⟨w.heap.size, 0, rfl, ?_⟩⟩, (Gr.refl w).alloc _⟩
  have h := heap_alloc_last w (.cells #[.int .i64 3, .int .i64 4, .int .i64 5, .int .i64 6] 3 (0, 0))
  rw [Nat.zero_add, cell_of_row _ _ _ _ _ _ h]
  have : k = 0 ∨ k = 1 ∨ k = 2 ∨ k = 3 := by simp at hk; omega
  rcases this with rfl | rfl | rfl | rfl <;> rfl
set_option maxRecDepth 100000 in
set_option maxHeartbeats 1000000 in
theorem lw_dye (w : World) : Calls Try.prog 37 #[] w fun e w' => (∃ a, e = .returned (.slice a 3 3) ∧ RdI w' a [8, 9, 10]) ∧ Gr w w' := by
  go_enter Try.func37, Try.ntmps37
  go_wp2
  go_ret
  refine ⟨⟨some ⟨w.heap.size, 0, none⟩, rfl, fun k hk => ⟨w.heap.size, 0, rfl, ?_⟩⟩, (Gr.refl w).alloc _⟩
  have h := heap_alloc_last w (.cells #[.int .i64 8, .int .i64 9, .int .i64 10] 3 (0, 0))
  rw [Nat.zero_add, cell_of_row _ _ _ _ _ _ h]
  have : k = 0 ∨ k = 1 ∨ k = 2 := by simp at hk; omega
  rcases this with rfl | rfl | rfl <;> rfl
end Go.Proofs.Ytipfofdjngnkpaa
