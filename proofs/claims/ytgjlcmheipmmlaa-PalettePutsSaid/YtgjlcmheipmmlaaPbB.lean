/- Law 15: sorted numbers, contained numbers, entries that refer; and what Drop leaves. -/
import Derived.Test.YtgjlcmheipmmlaaPbA
import Derived.Test.YtgjlcmheipmmlaaPaX
import Derived.BigQuiet
import Derived.WalkSmall
set_option linter.unusedVariables false
set_option linter.unusedSimpArgs false
namespace Go.Proofs.Ytgjlcmheipmmlaa
open Go.RowKit
open Z
set_option maxHeartbeats 1000000 in
theorem cm_isNaN (x : Int) (w : World) : Calls Try.prog 94 #[.int .i64 x] w fun e w' => e = .returned (.bool false) ∧ w = w' := by
  go_enter Try.func94, Try.ntmps94
  go_wp2
  go_ret
  exact ⟨by simp, rfl⟩
set_option maxHeartbeats 1000000 in
theorem cm_Less (x y : Int) (w : World) : Calls Try.prog 78 #[.int .i64 x, .int .i64 y] w fun e w' => e = .returned (.bool (decide (x < y))) ∧ w = w' := by
  go_enter Try.func78, Try.ntmps78
  go_wp2_with fail
  refine (cm_isNaN _ _).mono ?_; rintro e w' ⟨rfl, rfl⟩
  go_wp2
  go_ret
  exact ⟨by first | rfl | simp, rfl⟩
set_option maxRecDepth 100000 in
set_option maxHeartbeats 2000000 in
theorem sl_IsSortedI {a : Option Addr} {L : List Int} {cap : Nat} (w : World) (hL : Rd shI w a L) (hl : L.length ≤ 100000) (hs : up L) :
    Calls Try.prog 39 #[.slice a L.length cap] w fun e w' => e = .returned (.bool true) ∧ Gr w w' := by
  have HL := Lib.hid hL
  have HS := Lib.hid (fun j (h : j + 1 < L.length) => List.pairwise_iff_getElem.1 hs j (j + 1) (by omega) h (by omega))
  obtain ⟨n, hn⟩ : ∃ n, L.length = n := ⟨_, rfl⟩
  have HN := Lib.hid hn
  rw [hn] at hl ⊢
  clear hL hn hs
  go_enter Try.func39, Try.ntmps39
  go_wp2
  go_loopw [3] (fun i wr => ∃ q : Int, i = .int .i64 q ∧ -1 ≤ q ∧ q < n ∧ Hid (Gr w wr)) (fun i _ => (intOf i).toNat)
  case atStart => exact ⟨(n : Int) - 1, rfl, by omega, by omega, Lib.hid (Gr.refl w)⟩
  case round =>
    obtain ⟨q, rfl, hq0, hq1, HG⟩ := hrel
    by_cases hlt : 0 < q
    · obtain ⟨j, rfl⟩ : ∃ j : Nat, q = (j : Int) + 1 := ⟨(q - 1).toNat, by omega⟩
      have h1 : j + 1 < L.length := by rw [HN.out]; omega
      obtain ⟨b, off, rfl, c0⟩ := int_cells (HL.out.gr HG.out) (show j < L.length by omega)
      obtain ⟨b', off', hb, c1⟩ := int_cells (HL.out.gr HG.out) h1
      cases hb
      have hxy := HS.out j h1
      generalize L[j + 1] = x at *
      generalize L[j] = y at *
      have HC : Hid (∀ w, Calls Try.prog 78 #[.int .i64 x, .int .i64 y] w fun e w' => e = .returned (.bool (decide (x < y))) ∧ w' = w) := Lib.hid (fun w => (cm_Less x y w).mono fun e w' ⟨h, h2⟩ => ⟨h, h2.symm⟩)
      have hd : decide (x < y) = false := decide_eq_false (by omega)
      rw [hd] at HC
      clear hd hxy
      go_wp2_with fail
      go_quiet ((go_at_call 78; exact Calls.quiet_of_same (HC.out _)))
      rename_i nq
      have HG3 := Lib.hid (below_drewN HG.out nq)
      go_wp2
      go_roundw
      case rel => exact ⟨(j : Int), by go_num, by omega, by omega, HG3⟩
      case measure => simp [intOf]
    · go_wp2
      go_ret
      exact ⟨rfl, HG.out⟩
set_option maxHeartbeats 1000000 in
set_option maxRecDepth 100000 in
theorem sl_IndexI {a : Option Addr} {l : List Int} {cap : Nat} (v : Int) (w : World) (hr : Rd shI w a l) (hlen : l.length ≤ 1000000) :
    Calls Try.prog 79 #[.slice a l.length cap, .int .i64 v] w fun e w' => (∃ i : Int, e = .returned (.int .i64 i) ∧ decide (0 ≤ i) = decide (v ∈ l)) ∧ Gr w w' := by
  have HR := Lib.hid hr
  obtain ⟨V, hV⟩ : ∃ V, decide (v ∈ l) = V := ⟨_, rfl⟩
  rw [hV]
  have HV := Lib.hid hV
  obtain ⟨n, hn⟩ : ∃ n, n = l.length := ⟨_, rfl⟩
  have HN := Lib.hid hn
  rw [← hn] at hlen ⊢
  clear hn hV hr
  go_enter Try.func79, Try.ntmps79
  go_wp2
  go_loopw [8] (fun i wr => ∃ j : Nat, i = .int .i64 j ∧ j ≤ n ∧ Hid (∀ k (h : k < l.length), k < j → l[k] ≠ v) ∧ Hid (Gr w wr)) (fun i _ => n - (intOf i).toNat)
  case atStart => exact ⟨0, rfl, Nat.zero_le _, Lib.hid (fun k _ h => absurd h (by omega)), Lib.hid (Gr.refl w)⟩
  case round =>
    obtain ⟨j, rfl, hj, HP, HG⟩ := hrel
    by_cases hlt : j < n
    · have hjl : j < l.length := by rw [← HN.out]; exact hlt
      obtain ⟨b, o, rfl, hc⟩ := int_cells (HR.out.gr HG.out) hjl
      by_cases he : l[j] = v
      · have hv : V = true := by rw [← HV.out, ← he]; simp
        subst hv
        rw [he] at hc
        clear he HP HV
        go_wp2
        go_ret
        exact ⟨⟨j, rfl, by simp⟩, HG.out⟩
      · have HP2 : Hid (∀ k (h : k < l.length), k < j + 1 → l[k] ≠ v) := Lib.hid fun k h hkj => by
          by_cases e : k = j
          · subst e; exact he
          · exact HP.out k h (by omega)
        generalize l[j] = x at *
        have hf : (v == x) = false := by simp; omega
        clear HP he
        go_wp2
        go_roundw
        case rel => exact ⟨j + 1, by go_num, by omega, HP2, HG⟩
        case measure => simp [intOf]; omega
    · have hv : V = false := by
        rw [← HV.out, decide_eq_false_iff_not]
        intro h
        obtain ⟨k, hk, e⟩ := List.getElem_of_mem h
        exact HP.out k hk (by rw [← HN.out] at hk; omega) e
      subst hv
      clear HP HV
      go_wp2
      go_ret
      exact ⟨⟨-1, rfl, rfl⟩, HG.out⟩
set_option maxRecDepth 100000 in
theorem sl_ContainsI {a : Option Addr} {l : List Int} {cap : Nat} (v : Int) (w : World) (hr : Rd shI w a l) (hlen : l.length ≤ 1000000) :
    Calls Try.prog 40 #[.slice a l.length cap, .int .i64 v] w fun e w' => e = .returned (.bool (decide (v ∈ l))) ∧ Gr w w' := by
  have HI := Lib.hid (sl_IndexI (cap := cap) v w hr hlen)
  clear hr hlen
  generalize l.length = n at *
  generalize decide (v ∈ l) = V at *
  go_enter Try.func40, Try.ntmps40
  go_wp2_with fail
  refine HI.out.mono ?_; rintro e w1 ⟨⟨i, rfl, hi⟩, hg1⟩
  have HG := Lib.hid hg1
  clear hg1 HI
  cases V
  all_goals
    have HI2 := Lib.hid hi
    clear hi
    go_wp2
    go_ret
    exact ⟨ret_bool HI2.out, HG.out⟩
set_option maxRecDepth 100000 in
theorem l15_refers1 {q : Nat} {c : Int} (x : En) (w : World) (hq : w.cell? ⟨q, 0, none⟩ = some (.int .i64 c)) : Calls Try.prog 42 #[.agg #[.int .i64 x.1, .int .i64 x.2.1, .int .i64 x.2.2.1, .int .i64 x.2.2.2], .pointer (some ⟨q, 0, none⟩)] w fun e w' => e = .returned (.bool (decide (x.2.2.1 = c))) ∧ Gr w w' := by
  obtain ⟨x0, x1, x2, x3⟩ := x
  have hq1 := gr_cell ((Gr.refl w).alloc (.cells #[.int .i64 x0, .int .i64 x1, .int .i64 x2, .int .i64 x3] 57)) hq
  have HG := Lib.hid ((Gr.refl w).alloc (.cells #[.int .i64 x0, .int .i64 x1, .int .i64 x2, .int .i64 x3] 57))
  clear hq
  show Calls _ _ #[.agg #[.int .i64 x0, .int .i64 x1, .int .i64 x2, .int .i64 x3], _] _ _
  simp only
  by_cases h : x2 = c
  · rw [decide_eq_true h]
    subst h
    go_enter Try.func42, Try.ntmps42
    go_wp2
    go_ret
    exact ⟨ret_bool (by simp), HG.out⟩
  · rw [decide_eq_false h]
    go_enter Try.func42, Try.ntmps42
    go_wp2
    go_ret
    exact ⟨ret_bool (by simp [h]), HG.out⟩
def refB (c : Int) (x : En) : Bool := decide (x.2.2.1 = c)
set_option maxHeartbeats 2000000 in
set_option maxRecDepth 100000 in
theorem sl_IndexFuncE {a : Option Addr} {R : List En} {cap q : Nat} {c : Int} (w : World) (hR : Rd shE w a R) (hlen : R.length ≤ 100000) (hc : w.cell? ⟨q, 0, none⟩ = some (.int .i64 c)) :
    Calls Try.prog 80 #[.slice a R.length cap, .func (.func 42) #[] #[.pointer (some ⟨q, 0, none⟩)]] w fun e w' => (∃ i : Int, e = .returned (.int .i64 i) ∧ ((0 ≤ i ∧ R.any (refB c) = true) ∨ (i = -1 ∧ R.any (refB c) = false))) ∧ Gr w w' := by
  have HR := Lib.hid hR
  have HC := Lib.hid hc
  obtain ⟨len, hl⟩ : ∃ len, R.length = len := ⟨_, rfl⟩
  have HE := Lib.hid hl
  rw [hl] at hlen ⊢
  clear hR hl hc
  go_enter Try.func80, Try.ntmps80
  go_wp2
  go_loopw [8] (fun i wr => ∃ j : Nat, i = .int .i64 j ∧ j ≤ len ∧ Hid (∀ k (h : k < R.length), k < j → refB c R[k] = false) ∧ Hid (Gr w wr)) (fun i _ => len - (intOf i).toNat)
  case atStart => exact ⟨0, rfl, Nat.zero_le _, Lib.hid (fun k _ h => absurd h (by omega)), Lib.hid (Gr.refl w)⟩
  case round =>
    obtain ⟨j, rfl, hj, HP, HG⟩ := hrel
    by_cases hlt : j < len
    · have hltR : j < R.length := by rw [HE.out]; exact hlt
      obtain ⟨b, off, rfl, d0, d1, d2, d3⟩ := en_cells (HR.out.gr HG.out) hltR
      have HIS := Lib.hid (fun w h => l15_refers1 (q := q) (c := c) R[j] w h)
      have HP2 : Hid (refB c R[j] = false → ∀ k (h : k < R.length), k < j + 1 → refB c R[k] = false) := Lib.hid fun h k hk hkj => by
        by_cases e : k = j
        · subst e; exact h
        · exact HP.out k hk (by omega)
      have HY : Hid (refB c R[j] = true → R.any (refB c) = true) := Lib.hid fun h => List.any_eq_true.2 ⟨_, List.getElem_mem hltR, h⟩
      have HCw := Lib.hid (gr_cell HG.out HC.out)
      generalize hx : R[j] = x at *
      rw [show decide (x.2.2.1 = c) = refB c x from rfl] at HIS
      cases hi : refB c x
      · rw [hi] at HIS
        have HP3 := Lib.hid (HP2.out hi)
        clear HP2 HP HY hx
        go_wp2_with fail
        refine (HIS.out _ HCw.out).mono ?_; rintro e w2 ⟨rfl, hg2⟩
        have HG2 := Lib.hid (Gr.trans HG.out hg2)
        clear hg2
        go_wp2
        go_roundw
        case rel => exact ⟨j + 1, by go_num, by omega, HP3, HG2⟩
        case measure => simp [intOf]; omega
      · rw [hi] at HIS
        have HN := Lib.hid (HY.out hi)
        clear HP2 HP HY hx
        go_wp2_with fail
        refine (HIS.out _ HCw.out).mono ?_; rintro e w2 ⟨rfl, hg2⟩
        have HG2 := Lib.hid (Gr.trans HG.out hg2)
        clear hg2
        go_wp2
        go_ret
        exact ⟨⟨j, rfl, .inl ⟨by omega, HN.out⟩⟩, HG2.out⟩
    · have HN : Hid (R.any (refB c) = false) := Lib.hid (by
        rw [List.any_eq_false]
        intro x hx
        obtain ⟨k, hk, rfl⟩ := List.mem_iff_getElem.1 hx
        rw [HP.out k hk (by have := HE.out; omega)]; simp)
      clear HP
      go_wp2
      go_ret
      exact ⟨⟨-1, rfl, .inr ⟨rfl, HN.out⟩⟩, HG.out⟩
set_option maxHeartbeats 1000000 in
set_option maxRecDepth 100000 in
theorem sl_ContainsFuncE {a : Option Addr} {R : List En} {cap q : Nat} {c : Int} (w : World) (hR : Rd shE w a R) (hlen : R.length ≤ 100000) (hc : w.cell? ⟨q, 0, none⟩ = some (.int .i64 c)) :
    Calls Try.prog 41 #[.slice a R.length cap, .func (.func 42) #[] #[.pointer (some ⟨q, 0, none⟩)]] w fun e w' => e = .returned (.bool (R.any (refB c))) ∧ Gr w w' := by
  have C := Lib.hid (sl_IndexFuncE (cap := cap) w hR hlen hc)
  generalize R.any (refB c) = B at *
  generalize R.length = n at *
  clear hR hc
  go_enter Try.func41, Try.ntmps41
  go_wp2_with fail
  refine C.out.mono ?_
  rintro e w1 ⟨⟨i, rfl, hi⟩, hg1⟩
  have HG := Lib.hid hg1; clear hg1
  rcases hi with ⟨h0, rfl⟩ | ⟨rfl, rfl⟩
  · go_wp2
    go_ret
    exact ⟨ret_bool (by first | rfl | exact decide_eq_true h0), HG.out⟩
  · go_wp2
    go_ret
    exact ⟨rfl, HG.out⟩
theorem mem_used {es : List En} {n : Int} : n ∈ usedR es ↔ ∃ x ∈ es, 0 < x.2.2.1 ∧ x.2.2.1 = n := by
  rw [mem_usedR]
  unfold pals
  rw [List.mem_map]
  constructor
  · rintro ⟨x, hx, e⟩
    rw [List.mem_filter] at hx
    exact ⟨x, hx.1, by simpa using hx.2, e⟩
  · rintro ⟨x, hx, h0, e⟩
    exact ⟨x, List.mem_filter.2 ⟨hx, by simpa using h0⟩, e⟩
theorem hueL_drop {l : List Pl} {n d c a : Int} (h : n ≠ d) : hueL (dropL l d) n c a = hueL l n c a := by
  have hf : (dropL l d).find? (fun g => decide (g.1 = n)) = l.find? (fun g => decide (g.1 = n)) := by
    unfold dropL
    rw [List.find?_filter]
    congr 1
    funext g
    by_cases e : g.1 = n
    · simp [e, h]
    · simp [e]
  unfold hueL
  rw [hf]
theorem flat_drop {l : List Pl} {d : Int} {x : En} (h : 0 < x.2.2.1 → x.2.2.1 ≠ d) : flatE (dropL l d) x = flatE l x := by
  unfold flatE
  split
  · rename_i h0; rw [hueL_drop (h h0)]
  · rfl
end Go.Proofs.Ytgjlcmheipmmlaa
