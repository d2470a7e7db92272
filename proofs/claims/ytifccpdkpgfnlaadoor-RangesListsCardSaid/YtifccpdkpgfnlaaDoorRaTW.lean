/- RaTW: RaT, RaU, RaV, RaW, joined. -/
import Derived.Test.YtifccpdkpgfnlaaDoorRaOS
set_option linter.unusedVariables false
set_option linter.unusedSimpArgs false

/- Sets of channels: the program's Holds. -/
namespace Go.Proofs.YtifccpdkpgfnlaaDoor.Z
open Go
def hasR (c : Int) (r : Int × Int) : Bool := decide (r.1 ≤ c) && decide (c ≤ r.2)
def holdsR (R : List (Int × Int)) (c : Int) : Bool × Int := if checkR R ≠ 0 then (false, checkR R) else (R.any (hasR c), 0)
end Go.Proofs.YtifccpdkpgfnlaaDoor.Z
namespace Go.Proofs.YtifccpdkpgfnlaaDoor
open Go.RowKit Go.Shelf
open Z
set_option maxHeartbeats 1000000 in
theorem ra_has (f t c : Int) (w : World) : Calls Tryd.prog 44 #[.agg #[.int .i64 f, .int .i64 t], .int .i64 c] w fun e w' => e = .returned (.bool (hasR c (f, t))) ∧ Gr w w' := by
  have HX := Lib.hid (RB.new w f t 63)
  have HG := Lib.hid ((Gr.refl w).alloc (.cells #[.int .i64 f, .int .i64 t] 63))
  obtain ⟨k0, k1, -, -⟩ := id HX.out
  unfold hasR
  simp only
  by_cases h : f ≤ c
  · rw [decide_eq_true h, Bool.true_and]
    go_enter Tryd.func44, Tryd.ntmps44
    go_wp2
    go_ret
    exact ⟨rfl, HG.out⟩
  · rw [decide_eq_false h, Bool.false_and]
    go_enter Tryd.func44, Tryd.ntmps44
    go_wp2
    go_ret
    exact ⟨ret_bool (by first | rfl | exact decide_eq_false h | simp), HG.out⟩
set_option maxHeartbeats 1000000 in
theorem ra_holds1 (f t c : Int) (Bc : Nat) (w : World) (hc : w.cell? ⟨Bc, 0, none⟩ = some (.int .i64 c)) :
    Calls Tryd.prog 43 #[.agg #[.int .i64 f, .int .i64 t], .pointer (some ⟨Bc, 0, none⟩)] w fun e w' => e = .returned (.bool (hasR c (f, t))) ∧ Gr w w' := by
  have HX := Lib.hid (RB.new w f t 63)
  have HG := Lib.hid ((Gr.refl w).alloc (.cells #[.int .i64 f, .int .i64 t] 63))
  obtain ⟨k0, k1, -, -⟩ := id HX.out
  have k2 := cell_gr HG.out hc
  have C := Lib.hid (fun w => ra_has f t c w)
  generalize hasR c (f, t) = v at *
  go_enter Tryd.func43, Tryd.ntmps43
  go_wp2_with fail
  refine (C.out _).mono ?_; rintro e w1 ⟨rfl, hg1⟩
  have HG1 := Lib.hid (Gr.trans HG.out hg1)
  clear hg1
  go_wp2
  go_ret
  exact ⟨rfl, HG1.out⟩
set_option maxHeartbeats 2000000 in
set_option maxRecDepth 100000 in
theorem ra_IndexFunc (a : Option Addr) (R : List (Int × Int)) (cap : Nat) (c : Int) (Bc : Nat) (w : World) (hR : RngAt w a R) (hcap : a = none → cap = 0) (hlen : R.length ≤ 10000000000000) (hc : w.cell? ⟨Bc, 0, none⟩ = some (.int .i64 c)) :
    Calls Tryd.prog 73 #[.slice a R.length cap, .func (.func 43) #[] #[.pointer (some ⟨Bc, 0, none⟩)]] w fun e w' => (∃ i : Int, e = .returned (.int .i64 i) ∧ ((0 ≤ i ∧ R.any (hasR c) = true) ∨ (i = -1 ∧ R.any (hasR c) = false))) ∧ Gr w w' := by
  have HR := Lib.hid hR
  have HC := Lib.hid hc
  obtain ⟨len, hl⟩ : ∃ len, R.length = len := ⟨_, rfl⟩
  have HE := Lib.hid hl
  rw [hl] at hlen ⊢
  clear hR hl hc hcap
  go_enter Tryd.func73, Tryd.ntmps73
  go_wp2
  go_loopw [8] (fun i wr => ∃ j : Nat, i = .int .i64 j ∧ j ≤ len ∧ Hid (∀ k (h : k < R.length), k < j → hasR c R[k] = false) ∧ Hid (Gr w wr)) (fun i _ => len - (intOf i).toNat)
  case atStart => exact ⟨0, rfl, Nat.zero_le _, Lib.hid (fun k _ h => absurd h (by omega)), Lib.hid (Gr.refl w)⟩
  case round =>
    obtain ⟨j, rfl, hj, HP, HG⟩ := hrel
    by_cases hlt : j < len
    · have hltR : j < R.length := by rw [HE.out]; exact hlt
      obtain ⟨b, off, rfl, hcc⟩ : ∃ b off, a = some ⟨b, off, none⟩ ∧ ∀ j (h : j < R.length), w.cell? ⟨b, off + j * 2, none⟩ = some (.int .i64 R[j].1) ∧ w.cell? ⟨b, off + j * 2 + 1, none⟩ = some (.int .i64 R[j].2) := by
        rcases HR.out with ⟨-, h⟩ | h
        · rw [h] at hltR; simp at hltR
        · exact h
      have d0 := cell_gr HG.out (hcc j hltR).1
      have d1 := cell_gr HG.out (hcc j hltR).2
      have HIS := Lib.hid (fun w h => ra_holds1 R[j].1 R[j].2 c Bc w h)
      have HP2 : Hid (hasR c R[j] = false → ∀ k (h : k < R.length), k < j + 1 → hasR c R[k] = false) := Lib.hid fun h k hk hkj => by
        by_cases e : k = j
        · subst e; exact h
        · exact HP.out k hk (by omega)
      have HY : Hid (hasR c R[j] = true → R.any (hasR c) = true) := Lib.hid fun h => List.any_eq_true.2 ⟨_, List.getElem_mem hltR, h⟩
      have HCw := Lib.hid (cell_gr HG.out HC.out)
      generalize hx : R[j] = x at *
      obtain ⟨f, t⟩ := x
      simp only at d0 d1 HIS
      cases hi : hasR c (f, t)
      · rw [hi] at HIS
        have HP3 := Lib.hid (HP2.out hi)
        clear HP2 HP HY hx hcc
        go_wp2_with fail
        refine (HIS.out _ HCw.out).mono ?_; rintro e w2 ⟨rfl, hg2⟩
        have HG2 := Lib.hid (Gr.trans HG.out hg2)
        clear hg2
        go_wp2
        go_roundw
        case rel => exact ⟨j + 1, by go_num, by omega, HP3, HG2⟩
        case measure => simp [intOf]; omega
      · rw [hi] at HIS
        have HN := Lib.hid (HY.out hi)
        clear HP2 HP HY hx hcc
        go_wp2_with fail
        refine (HIS.out _ HCw.out).mono ?_; rintro e w2 ⟨rfl, hg2⟩
        have HG2 := Lib.hid (Gr.trans HG.out hg2)
        clear hg2
        go_wp2
        go_ret
        exact ⟨⟨j, rfl, .inl ⟨by omega, HN.out⟩⟩, HG2.out⟩
    · have HN : Hid (R.any (hasR c) = false) := Lib.hid (by
        rw [List.any_eq_false]
        intro x hx
        obtain ⟨k, hk, rfl⟩ := List.mem_iff_getElem.1 hx
        rw [HP.out k hk (by have := HE.out; omega)]; simp)
      clear HP
      go_wp2
      go_ret
      exact ⟨⟨-1, rfl, .inr ⟨rfl, HN.out⟩⟩, HG.out⟩
set_option maxHeartbeats 1000000 in
set_option maxRecDepth 100000 in
theorem ra_ContainsFunc (a : Option Addr) (R : List (Int × Int)) (cap : Nat) (c : Int) (Bc : Nat) (w : World) (hR : RngAt w a R) (hcap : a = none → cap = 0) (hlen : R.length ≤ 10000000000000) (hc : w.cell? ⟨Bc, 0, none⟩ = some (.int .i64 c)) :
    Calls Tryd.prog 42 #[.slice a R.length cap, .func (.func 43) #[] #[.pointer (some ⟨Bc, 0, none⟩)]] w fun e w' => e = .returned (.bool (R.any (hasR c))) ∧ Gr w w' := by
  have C := Lib.hid (ra_IndexFunc a R cap c Bc w hR hcap hlen hc)
  generalize R.any (hasR c) = B at *
  generalize R.length = n at *
  clear hR hcap hc
  go_enter Tryd.func42, Tryd.ntmps42
  go_wp2_with fail
  refine C.out.mono ?_
  rintro e w1 ⟨⟨i, rfl, hi⟩, hg1⟩
  have HG := Lib.hid hg1; clear hg1
  rcases hi with ⟨h0, rfl⟩ | ⟨rfl, rfl⟩
  · go_wp2
    go_ret
    exact ⟨ret_bool (by first | rfl | exact decide_eq_true h0), HG.out⟩
  · go_wp2
    go_ret
    exact ⟨rfl, HG.out⟩
set_option maxHeartbeats 1000000 in
set_option maxRecDepth 100000 in
theorem ra_Holds (a : Option Addr) (R : List (Int × Int)) (cap : Nat) (c : Int) (w : World) (hR : RngAt w a R) (hcap : a = none → cap = 0) (hlen : R.length ≤ 10000000000000) :
    Calls Tryd.prog 12 #[.slice a R.length cap, .int .i64 c] w fun e w' => e = .returned (.tuple #[.bool (holdsR R c).1, .int .i64 (holdsR R c).2]) ∧ Gr w w' := by
  have HG := Lib.hid ((Gr.refl w).alloc (.cells #[.int .i64 c] 3))
  have C := Lib.hid (fun w' (hg : Gr w w') => ra_Check a R cap w' (hR.gr hg) hcap hlen)
  have D := Lib.hid (fun w' (hg : Gr w w') hc => ra_ContainsFunc a R cap c w.heap.size w' (hR.gr hg) hcap hlen hc)
  have k0 : (w.alloc (.cells #[.int .i64 c] 3)).cell? ⟨w.heap.size, 0, none⟩ = some (.int .i64 c) := by simp
  unfold holdsR
  by_cases h : checkR R = 0
  · rw [h] at C
    rw [if_neg (by simp [h])]
    simp only
    clear hR hcap h
    generalize R.any (hasR c) = B at *
    generalize R.length = n at *
    go_enter Tryd.func12, Tryd.ntmps12
    go_wp2_with fail
    refine (C.out _ HG.out).mono ?_; rintro e w1 ⟨rfl, hg1⟩
    have HG1 := Lib.hid (Gr.trans HG.out hg1)
    have HC := Lib.hid (cell_gr hg1 k0)
    clear hg1 k0
    go_wp2_with fail
    refine (D.out _ HG1.out HC.out).mono ?_; rintro e w2 ⟨rfl, hg2⟩
    have HG2 := Lib.hid (Gr.trans HG1.out hg2)
    clear hg2
    go_wp2
    go_ret2
    exact ⟨rfl, HG2.out⟩
  · rw [if_pos h]
    simp only
    generalize checkR R = v at *
    generalize R.length = n at *
    have hv : (v == 0) = false := by rw [beq_eq_false_iff_ne]; exact h
    clear hR hcap D k0
    go_enter Tryd.func12, Tryd.ntmps12
    go_wp2_with fail
    refine (C.out _ HG.out).mono ?_; rintro e w2 ⟨rfl, hg2⟩
    have HG2 := Lib.hid (Gr.trans HG.out hg2)
    clear hg2
    go_wp2
    go_ret2
    exact ⟨rfl, HG2.out⟩
end Go.Proofs.YtifccpdkpgfnlaaDoor

/- Sets of channels: slices.Equal of integers and of ranges. -/
namespace Go.Proofs.YtifccpdkpgfnlaaDoor
open Go.RowKit Go.Shelf
open Z
theorem IntsAt.gr {w w' : World} {a : Option Addr} {L : List Int} (h : IntsAt w a L) (hg : Gr w w') : IntsAt w' a L := by
  rcases h with h | ⟨b, off, ha, hc⟩
  · exact .inl h
  · exact .inr ⟨b, off, ha, fun j hj => cell_gr hg (hc j hj)⟩
theorem IntsAt.at {w : World} {a : Option Addr} {L : List Int} (h : IntsAt w a L) {j : Nat} (hj : j < L.length) : ∃ b off, a = some ⟨b, off, none⟩ ∧ w.cell? ⟨b, off + j, none⟩ = some (.int .i64 L[j]) := by
  rcases h with ⟨-, h⟩ | ⟨b, off, ha, hc⟩
  · rw [h] at hj; simp at hj
  · exact ⟨b, off, ha, hc j hj⟩
theorem RngAt.at {w : World} {a : Option Addr} {R : List (Int × Int)} (h : RngAt w a R) {j : Nat} (hj : j < R.length) : ∃ b off, a = some ⟨b, off, none⟩ ∧ w.cell? ⟨b, off + j * 2, none⟩ = some (.int .i64 R[j].1) ∧ w.cell? ⟨b, off + j * 2 + 1, none⟩ = some (.int .i64 R[j].2) := by
  rcases h with ⟨-, h⟩ | ⟨b, off, ha, hc⟩
  · rw [h] at hj; simp at hj
  · exact ⟨b, off, ha, hc j hj⟩
set_option maxHeartbeats 1000000 in
set_option maxRecDepth 100000 in
theorem sl_EqualI (a b : Option Addr) (L M : List Int) (ca cb : Nat) (w : World) (hL : IntsAt w a L) (hM : IntsAt w b M) (hl : L.length ≤ 10000000000000) (hm : M.length ≤ 10000000000000) :
    Calls Tryd.prog 21 #[.slice a L.length ca, .slice b M.length cb] w fun e w' => e = .returned (.bool (decide (L = M))) ∧ Gr w w' := by
  have HL := Lib.hid hL
  have HM := Lib.hid hM
  clear hL hM
  by_cases hlm : L.length = M.length
  · obtain ⟨n, hn⟩ : ∃ n, L.length = n := ⟨_, rfl⟩
    have HN := Lib.hid hn
    have HN2 := Lib.hid (hlm.symm.trans hn)
    rw [hn] at hl
    rw [hn, hlm.symm.trans hn]
    clear hlm hn hm
    obtain ⟨V, hV⟩ : ∃ V, decide (L = M) = V := ⟨_, rfl⟩
    rw [hV]
    have HV := Lib.hid hV
    clear hV
    go_enter Tryd.func21, Tryd.ntmps21
    go_wp2
    go_loopw [13] (fun i wr => ∃ j : Nat, i = .int .i64 j ∧ j ≤ n ∧ Hid (∀ k (h : k < L.length) (h' : k < M.length), k < j → L[k] = M[k]) ∧ Hid (Gr w wr)) (fun i _ => n - (intOf i).toNat)
    case atStart => exact ⟨0, rfl, Nat.zero_le _, Lib.hid (fun k _ _ h => absurd h (by omega)), Lib.hid (Gr.refl w)⟩
    case round =>
      obtain ⟨j, rfl, hj, HP, HG⟩ := hrel
      by_cases hlt : j < n
      · have j1 : j < L.length := by rw [HN.out]; exact hlt
        have j2 : j < M.length := by rw [HN2.out]; exact hlt
        obtain ⟨p, o, rfl, c0⟩ := (HL.out.gr HG.out).at j1
        obtain ⟨q, r, rfl, c1⟩ := (HM.out.gr HG.out).at j2
        by_cases he : L[j] = M[j]
        · have HP3 : Hid (∀ k (h : k < L.length) (h' : k < M.length), k < j + 1 → L[k] = M[k]) := Lib.hid fun k h h' hkj => by
            by_cases e : k = j
            · subst e; exact he
            · exact HP.out k h h' (by omega)
          rw [← he] at c1
          generalize L[j] = x at *
          clear he HP
          go_wp2_with fail
          go_quiet (fail)
          rename_i nq
          have HG3 := Lib.hid (below_drewN HG.out nq)
          go_wp2
          go_roundw
          case rel => exact ⟨j + 1, by go_num, by omega, HP3, HG3⟩
          case measure => simp [intOf]; omega
        · have hv : V = false := by rw [← HV.out, decide_eq_false_iff_not]; rintro rfl; exact he rfl
          subst hv
          generalize L[j] = x at *
          generalize M[j] = y at *
          clear HP HV
          go_wp2_with fail
          go_quiet (fail)
          rename_i nq
          have HG3 := Lib.hid (below_drewN HG.out nq)
          go_wp2
          go_ret
          exact ⟨rfl, HG3.out⟩
      · have hv : V = true := by
          rw [← HV.out, decide_eq_true_iff]
          refine List.ext_getElem (HN.out.trans HN2.out.symm) fun k h1 h2 => HP.out k h1 h2 ?_
          have := HN.out; omega
        subst hv
        clear HP HV
        go_wp2
        go_ret
        exact ⟨rfl, HG.out⟩
  · rw [decide_eq_false (fun e => hlm (by rw [e]))]
    generalize L.length = n at *
    generalize M.length = m at *
    go_enter Tryd.func21, Tryd.ntmps21
    go_wp2
    go_ret
    exact ⟨rfl, Gr.refl w⟩
set_option maxHeartbeats 1000000 in
set_option maxRecDepth 100000 in
theorem sl_EqualR (a b : Option Addr) (L M : List (Int × Int)) (ca cb : Nat) (w : World) (hL : RngAt w a L) (hM : RngAt w b M) (hl : L.length ≤ 10000000000000) (hm : M.length ≤ 10000000000000) :
    Calls Tryd.prog 36 #[.slice a L.length ca, .slice b M.length cb] w fun e w' => e = .returned (.bool (decide (L = M))) ∧ Gr w w' := by
  have HL := Lib.hid hL
  have HM := Lib.hid hM
  clear hL hM
  by_cases hlm : L.length = M.length
  · obtain ⟨n, hn⟩ : ∃ n, L.length = n := ⟨_, rfl⟩
    have HN := Lib.hid hn
    have HN2 := Lib.hid (hlm.symm.trans hn)
    rw [hn] at hl
    rw [hn, hlm.symm.trans hn]
    clear hlm hn hm
    obtain ⟨V, hV⟩ : ∃ V, decide (L = M) = V := ⟨_, rfl⟩
    rw [hV]
    have HV := Lib.hid hV
    clear hV
    go_enter Tryd.func36, Tryd.ntmps36
    go_wp2
    go_loopw [13] (fun i wr => ∃ j : Nat, i = .int .i64 j ∧ j ≤ n ∧ Hid (∀ k (h : k < L.length) (h' : k < M.length), k < j → L[k] = M[k]) ∧ Hid (Gr w wr)) (fun i _ => n - (intOf i).toNat)
    case atStart => exact ⟨0, rfl, Nat.zero_le _, Lib.hid (fun k _ _ h => absurd h (by omega)), Lib.hid (Gr.refl w)⟩
    case round =>
      obtain ⟨j, rfl, hj, HP, HG⟩ := hrel
      by_cases hlt : j < n
      · have j1 : j < L.length := by rw [HN.out]; exact hlt
        have j2 : j < M.length := by rw [HN2.out]; exact hlt
        obtain ⟨p, o, rfl, c0, c0'⟩ := (HL.out.gr HG.out).at j1
        obtain ⟨q, r, rfl, c1, c1'⟩ := (HM.out.gr HG.out).at j2
        by_cases he : L[j] = M[j]
        · have HP3 : Hid (∀ k (h : k < L.length) (h' : k < M.length), k < j + 1 → L[k] = M[k]) := Lib.hid fun k h h' hkj => by
            by_cases e : k = j
            · subst e; exact he
            · exact HP.out k h h' (by omega)
          rw [← he] at c1 c1'
          generalize L[j] = x at *
          obtain ⟨f, t⟩ := x
          simp only at c0 c0' c1 c1'
          clear he HP
          go_wp2_with fail
          go_quiet (fail)
          rename_i nq
          have HG3 := Lib.hid (below_drewN HG.out nq)
          go_wp2
          go_roundw
          case rel => exact ⟨j + 1, by go_num, by omega, HP3, HG3⟩
          case measure => simp [intOf]; omega
        · have hv : V = false := by rw [← HV.out, decide_eq_false_iff_not]; rintro rfl; exact he rfl
          subst hv
          generalize L[j] = x at *
          generalize M[j] = y at *
          obtain ⟨f, t⟩ := x
          obtain ⟨f', t'⟩ := y
          simp only at c0 c0' c1 c1'
          clear HP HV
          by_cases hf : f = f'
          · subst hf
            have ht : (t == t') = false := by rw [beq_eq_false_iff_ne]; rintro rfl; exact he rfl
            clear he
            go_wp2_with fail
            go_quiet (fail)
            rename_i nq
            have HG3 := Lib.hid (below_drewN HG.out nq)
            go_wp2
            go_ret
            exact ⟨rfl, HG3.out⟩
          · have hff : (f == f') = false := by rw [beq_eq_false_iff_ne]; exact hf
            clear he
            go_wp2_with fail
            go_quiet (fail)
            rename_i nq
            have HG3 := Lib.hid (below_drewN HG.out nq)
            go_wp2
            go_ret
            exact ⟨rfl, HG3.out⟩
      · have hv : V = true := by
          rw [← HV.out, decide_eq_true_iff]
          refine List.ext_getElem (HN.out.trans HN2.out.symm) fun k h1 h2 => HP.out k h1 h2 ?_
          have := HN.out; omega
        subst hv
        clear HP HV
        go_wp2
        go_ret
        exact ⟨rfl, HG.out⟩
  · rw [decide_eq_false (fun e => hlm (by rw [e]))]
    generalize L.length = n at *
    generalize M.length = m at *
    go_enter Tryd.func36, Tryd.ntmps36
    go_wp2
    go_ret
    exact ⟨rfl, Gr.refl w⟩
end Go.Proofs.YtifccpdkpgfnlaaDoor

/- Sets of channels: the examples of the chapter, worked out. -/
namespace Go.Proofs.YtifccpdkpgfnlaaDoor.Z
open Go
theorem setStep_off {g : Nat → Bool} {l : List (Int × Int)} {k : Nat} (h : g k = false) : setStep g l k = l := by unfold setStep; rw [h]; simp
theorem setS_stop {g : Nat → Bool} {n : Nat} (h : ∀ k, n ≤ k → g k = false) : ∀ m, setS g (n + m) = setS g n
  | 0 => rfl
  | m + 1 => (setStep_off (h (n + m) (by omega))).trans (setS_stop h m)
theorem setS_congr {g h : Nat → Bool} : ∀ n, (∀ k, k < n → g k = h k) → setS g n = setS h n
  | 0, _ => rfl
  | n + 1, e => by
    have ih := setS_congr n fun k hk => e k (by omega)
    show setStep g (setS g n) n = setStep h (setS h n) n
    unfold setStep
    rw [ih, e n (by omega), e (n - 1) (by omega)]
theorem mem_runL {r : Int × Int} {x : Int} : x ∈ runL r ↔ r.1 ≤ x ∧ x ≤ r.2 := by
  unfold runL runP
  rw [List.mem_map]
  constructor
  · rintro ⟨i, hi, rfl⟩
    rw [List.mem_range] at hi
    omega
  · intro ⟨h1, h2⟩
    exact ⟨(x - r.1).toNat, by rw [List.mem_range]; omega, by omega⟩
theorem mem_chans {R : List (Int × Int)} {x : Int} : x ∈ chans R ↔ ∃ r ∈ R, r.1 ≤ x ∧ x ≤ r.2 := by
  unfold chans
  rw [List.mem_flatMap]
  exact exists_congr fun r => and_congr_right fun _ => mem_runL
theorem inR_eq (R : List (Int × Int)) (k : Nat) : inR R k = R.any (hasR k) := by
  unfold inR updM
  by_cases h : (k : Int) ∈ chans R
  · rw [if_pos h]
    obtain ⟨r, hr, h1, h2⟩ := mem_chans.1 h
    exact (List.any_eq_true.2 ⟨r, hr, by unfold hasR; simp [h1, h2]⟩).symm
  · rw [if_neg h]
    refine (List.any_eq_false.2 fun r hr e => h (mem_chans.2 ⟨r, hr, ?_⟩)).symm
    unfold hasR at e
    simpa using e
theorem combG_all (rem : Bool → Bool → Bool) (gA gB : Nat → Bool) (k : Nat) : combG rem gA gB (chans [(1, 999)]) k = if 1 ≤ k ∧ k ≤ 999 then rem (gA k) (gB k) else false := by
  unfold combG
  have : (k : Int) ∈ chans [(1, 999)] ↔ 1 ≤ k ∧ k ≤ 999 := by
    rw [mem_chans]; simp; omega
  by_cases h : 1 ≤ k ∧ k ≤ 999
  · rw [if_pos h, if_pos (this.2 h)]
  · rw [if_neg h, if_neg (fun e => h (this.1 e))]
theorem setS_comb (rem : Bool → Bool → Bool) (A B : List (Int × Int)) (n : Nat) (hn : n ≤ 1000) (hr : rem false false = false) (hA : ∀ r ∈ A, r.2 < n) (hB : ∀ r ∈ B, r.2 < n) :
    setS (combG rem (inR A) (inR B) (chans [(1, 999)])) 1000 = setS (fun k => if 1 ≤ k ∧ k ≤ 999 then rem (A.any (hasR k)) (B.any (hasR k)) else false) n := by
  have off : ∀ (R : List (Int × Int)) (k : Nat), (∀ r ∈ R, r.2 < n) → n ≤ k → R.any (hasR k) = false := fun R k h hk =>
    List.any_eq_false.2 fun r hr e => by
      have := h r hr
      unfold hasR at e
      simp at e
      omega
  rw [setS_congr 1000 (h := fun k => if 1 ≤ k ∧ k ≤ 999 then rem (A.any (hasR k)) (B.any (hasR k)) else false) fun k _ => by rw [combG_all, inR_eq, inR_eq]]
  have := setS_stop (g := fun k => if 1 ≤ k ∧ k ≤ 999 then rem (A.any (hasR k)) (B.any (hasR k)) else false) (n := n) (fun k hk => by
    simp only [off A k hA hk, off B k hB hk, hr]; simp) (1000 - n)
  rwa [show n + (1000 - n) = 1000 by omega] at this
theorem aw_list : listR [(1, 2), (4, 5), (9, 9)] = ([1, 2, 4, 5, 9], 0) := by decide +kernel
theorem aw_format : formatR [(1, 2), (4, 5), (9, 9)] = ([49, 32, 116, 104, 114, 117, 32, 50, 32, 43, 32, 52, 32, 116, 104, 114, 117, 32, 53, 32, 43, 32, 57], 0) := by decide +kernel
theorem aw_union : combR (fun x y => x || y) [(1, 3)] [(4, 6)] = ([(1, 6)], 0) := by
  unfold combR
  rw [if_neg (by decide), if_neg (by decide), setS_comb _ _ _ 7 (by omega) rfl (by decide) (by decide)]
  decide +kernel
theorem aw_minus : combR (fun x y => x && !y) [(1, 6)] [(2, 5)] = ([(1, 1), (6, 6)], 0) := by
  unfold combR
  rw [if_neg (by decide), if_neg (by decide), setS_comb _ _ _ 7 (by omega) rfl (by decide) (by decide)]
  decide +kernel
theorem updM_far {g : Nat → Bool} {R : List (Int × Int)} {v : Bool} {n k : Nat} (hR : ∀ r ∈ R, r.2 < n) (hk : n ≤ k) : updM g (chans R) v k = g k := by
  unfold updM
  rw [if_neg]
  intro h
  obtain ⟨r, hr, h1, h2⟩ := mem_chans.1 h
  have := hR r hr
  omega
theorem aw_mem1 : membersR [49, 32, 116, 104, 114, 117, 32, 53, 32, 43, 32, 57, 32, 45, 32, 51] = (updM (updM (updM (fun _ => false) (chans [(1, 5)]) true) (chans [(9, 9)]) true) (chans [(3, 3)]) false, 0, 16) := by kernel_rfl
theorem aw_mem2 : membersR [55, 32, 116, 104, 114, 117, 32, 53] = (updM (fun _ => false) (chans [(5, 7)]) true, 0, 8) := by kernel_rfl
theorem aw_mem3 : (membersR [49, 32, 43, 32, 49, 48, 48, 48]).2 = (2, 4) := by kernel_rfl
theorem aw_parse1 : parseR [49, 32, 116, 104, 114, 117, 32, 53, 32, 43, 32, 57, 32, 45, 32, 51] = ([(1, 2), (4, 5), (9, 9)], 0, 0) := by
  unfold parseR
  rw [if_neg (by decide), aw_mem1, if_neg (by decide)]
  simp only
  rw [show (1000 : Nat) = 10 + 990 from rfl, setS_stop (n := 10) (fun k hk => by rw [updM_far (n := 10) (by decide) hk, updM_far (n := 10) (by decide) hk, updM_far (n := 10) (by decide) hk])]
  decide +kernel
theorem aw_parse2 : parseR [55, 32, 116, 104, 114, 117, 32, 53] = ([(5, 7)], 0, 0) := by
  unfold parseR
  rw [if_neg (by decide), aw_mem2, if_neg (by decide)]
  simp only
  rw [show (1000 : Nat) = 10 + 990 from rfl, setS_stop (n := 10) (fun k hk => by rw [updM_far (n := 10) (by decide) hk])]
  decide +kernel
theorem aw_parse3 : parseR [49, 32, 43, 32, 49, 48, 48, 48] = ([], 4, 2) := by
  unfold parseR
  rw [if_neg (by decide), show (membersR [49, 32, 43, 32, 49, 48, 48, 48]).2.1 = 2 from by rw [aw_mem3], show (membersR [49, 32, 43, 32, 49, 48, 48, 48]).2.2 = 4 from by rw [aw_mem3]]
  rfl
end Go.Proofs.YtifccpdkpgfnlaaDoor.Z

/- Sets of channels: the examples of the chapter, walked. -/
namespace Go.Proofs.YtifccpdkpgfnlaaDoor
open Go.RowKit Go.Shelf
open Z
theorem OwnR.shape2 {B : Nat} {w : World} {v : Value} {l : List (Int × Int)} (h : OwnR B w v l) : ∃ a cap, v = .slice a l.length cap ∧ RngAt w a l ∧ (a = none → cap = 0) ∧ ∀ p o, a = some ⟨p, o, none⟩ → p < w.heap.size := by
  obtain ⟨a, cap, rfl, hr, hc, -, -⟩ := id h.shape
  refine ⟨a, cap, rfl, hr, hc, fun p o e => ?_⟩
  subst e
  exact (World.ownsRow.lt h p rfl).2
theorem OwnI.shape2 {B : Nat} {w : World} {v : Value} {l : List Int} (h : OwnI B w v l) : ∃ a cap, v = .slice a l.length cap ∧ IntsAt w a l ∧ (a = none → cap = 0) := by
  rcases h.2 with ⟨rfl, h0⟩ | ⟨g, cap, cur, rfl, hb, hg, hrest⟩
  · have : l = [] := List.eq_nil_of_length_eq_zero h0
    subst this
    exact ⟨none, 0, rfl, .inl ⟨rfl, rfl⟩, fun _ => rfl⟩
  · refine ⟨some ⟨g, 0, none⟩, cap, rfl, .inr ⟨g, 0, rfl, fun j hj => ?_⟩, fun e => by cases e⟩
    rw [Nat.zero_add, World.ownsRow.cellAt h j (by omega)]
    simp [hj]
theorem OwnI.gr {B : Nat} {w w' : World} {v : Value} {l : List Int} (h : OwnI B w v l) (hg : Gr w w') : OwnI B w' v l := World.ownsRow.kept h (⟨hg.os, hg.tape, hg.output, hg.size, fun i hi _ => hg.block i hi⟩ : w.grownBy w' none) (by cases hv : v.ownBlock with | none => exact .inl rfl | some k => exact .inr (by simp))
theorem rng_one (W : World) (f t : Int) (ty : TypeId) : RngAt (W.alloc (.cells #[.int .i64 f, .int .i64 t] ty)) (some ⟨W.heap.size, 0, none⟩) [(f, t)] := .inr ⟨_, 0, rfl, fun j hj => by
  have : j = 0 := by simpa using hj
  subst this
  exact ⟨by simp, by simp⟩⟩
theorem rng_two (W : World) (f t f' t' : Int) (ty : TypeId) : RngAt (W.alloc (.cells #[.int .i64 f, .int .i64 t, .int .i64 f', .int .i64 t'] ty)) (some ⟨W.heap.size, 0, none⟩) [(f, t), (f', t')] := .inr ⟨_, 0, rfl, fun j hj => by
  match j, hj with
  | 0, _ => exact ⟨by simp, by simp⟩
  | 1, _ => exact ⟨by simp, by simp⟩
  | j + 2, hj => exfalso; simp at hj; omega⟩
theorem ints_five (W : World) (a b c d e : Int) (ty : TypeId) : IntsAt (W.alloc (.cells #[.int .i64 a, .int .i64 b, .int .i64 c, .int .i64 d, .int .i64 e] ty)) (some ⟨W.heap.size, 0, none⟩) [a, b, c, d, e] := .inr ⟨_, 0, rfl, fun j hj => by
  match j, hj with
  | 0, _ => simp
  | 1, _ => simp
  | 2, _ => simp
  | 3, _ => simp
  | 4, _ => simp
  | j + 5, hj => exfalso; simp at hj; omega⟩
theorem sl_SameI {a b : Option Addr} {L : List Int} {ca cb : Nat} {w : World} (hL : IntsAt w a L) (hM : IntsAt w b L) (hl : L.length ≤ 10000000000000) :
    Calls Tryd.prog 21 #[.slice a L.length ca, .slice b L.length cb] w fun e w' => e = .returned (.bool true) ∧ Gr w w' := by
  have := sl_EqualI a b L L ca cb w hL hM hl hl
  rwa [decide_eq_true rfl] at this
theorem sl_SameR {a b : Option Addr} {L : List (Int × Int)} {ca cb : Nat} {w : World} (hL : RngAt w a L) (hM : RngAt w b L) (hl : L.length ≤ 10000000000000) :
    Calls Tryd.prog 36 #[.slice a L.length ca, .slice b L.length cb] w fun e w' => e = .returned (.bool true) ∧ Gr w w' := by
  have := sl_EqualR a b L L ca cb w hL hM hl hl
  rwa [decide_eq_true rfl] at this
set_option maxRecDepth 100000 in
set_option maxHeartbeats 2000000 in
theorem l6_awake (w : World) (htab : Tab w) : Calls Tryd.prog 11 #[] w fun e w' => e = .returned (.bool true) ∧ Gr w w' := by
  have HT := Lib.hid htab
  clear htab
  have P1 : Hid (∀ w, Calls Tryd.prog 35 #[.string ⟨#[49, 32, 116, 104, 114, 117, 32, 53, 32, 43, 32, 57, 32, 45, 32, 51]⟩] w fun e w' => ∃ v, e = .returned (.tuple #[v, .int .i64 0, .int .i64 0]) ∧ OwnR w.heap.size w' v [(1, 2), (4, 5), (9, 9)] ∧ Gr w w') := Lib.hid fun w => by
    have h := ra_Parse ⟨#[49, 32, 116, 104, 114, 117, 32, 53, 32, 43, 32, 57, 32, 45, 32, 51]⟩ w
    rw [show (⟨#[49, 32, 116, 104, 114, 117, 32, 53, 32, 43, 32, 57, 32, 45, 32, 51]⟩ : ByteArray).data.toList = [49, 32, 116, 104, 114, 117, 32, 53, 32, 43, 32, 57, 32, 45, 32, 51] from rfl, aw_parse1] at h
    exact h
  have P2 : Hid (∀ w, Calls Tryd.prog 35 #[.string ⟨#[55, 32, 116, 104, 114, 117, 32, 53]⟩] w fun e w' => ∃ v, e = .returned (.tuple #[v, .int .i64 0, .int .i64 0]) ∧ OwnR w.heap.size w' v [(5, 7)] ∧ Gr w w') := Lib.hid fun w => by
    have h := ra_Parse ⟨#[55, 32, 116, 104, 114, 117, 32, 53]⟩ w
    rw [show (⟨#[55, 32, 116, 104, 114, 117, 32, 53]⟩ : ByteArray).data.toList = [55, 32, 116, 104, 114, 117, 32, 53] from rfl, aw_parse2] at h
    exact h
  have P3 : Hid (∀ w, Calls Tryd.prog 35 #[.string ⟨#[49, 32, 43, 32, 49, 48, 48, 48]⟩] w fun e w' => ∃ v, e = .returned (.tuple #[v, .int .i64 4, .int .i64 2]) ∧ OwnR w.heap.size w' v [] ∧ Gr w w') := Lib.hid fun w => by
    have h := ra_Parse ⟨#[49, 32, 43, 32, 49, 48, 48, 48]⟩ w
    rw [show (⟨#[49, 32, 43, 32, 49, 48, 48, 48]⟩ : ByteArray).data.toList = [49, 32, 43, 32, 49, 48, 48, 48] from rfl, aw_parse3] at h
    exact h
  have LI : Hid (∀ a cap w, RngAt w a [((1 : Int), (2 : Int)), (4, 5), (9, 9)] → (a = none → cap = 0) → (∀ p o, a = some ⟨p, o, none⟩ → p < w.heap.size) → Calls Tryd.prog 17 #[.slice a 3 cap] w fun e w' => ∃ v, e = .returned (.tuple #[v, .int .i64 0]) ∧ OwnI w.heap.size w' v [1, 2, 4, 5, 9] ∧ Gr w w') := Lib.hid fun a cap w h1 h2 h3 => by
    have h := ra_List a _ cap w h1 h2 (by decide) h3
    rw [aw_list] at h
    exact h
  have FO : Hid (∀ a cap w, RngAt w a [((1 : Int), (2 : Int)), (4, 5), (9, 9)] → (a = none → cap = 0) → Tab w → Calls Tryd.prog 33 #[.slice a 3 cap] w fun e w' => e = .returned (.tuple #[.string ⟨#[49, 32, 116, 104, 114, 117, 32, 50, 32, 43, 32, 52, 32, 116, 104, 114, 117, 32, 53, 32, 43, 32, 57]⟩, .int .i64 0]) ∧ Gr w w') := Lib.hid fun a cap w h1 h2 h3 => by
    have h := ra_Format a _ cap w h1 h2 (by decide) h3
    rw [aw_format] at h
    exact h
  have UN : Hid (∀ a b w, RngAt w (some ⟨a, 0, none⟩) [((1 : Int), (3 : Int))] → RngAt w (some ⟨b, 0, none⟩) [((4 : Int), (6 : Int))] → a < w.heap.size → b < w.heap.size → Calls Tryd.prog 27 #[.slice (some ⟨a, 0, none⟩) 1 1, .slice (some ⟨b, 0, none⟩) 1 1] w fun e w' => ∃ v, e = .returned (.tuple #[v, .int .i64 0]) ∧ OwnR w.heap.size w' v [(1, 6)] ∧ Gr w w') := Lib.hid fun a b w h1 h2 h3 h4 => by
    have h := ra_Union _ _ _ _ 1 1 w h1 h2 (fun h => by cases h) (fun h => by cases h) (by decide) (by decide) (fun p o e => by cases e; exact h3) (fun p o e => by cases e; exact h4)
    rw [aw_union] at h
    exact h
  have MI : Hid (∀ a ca b w, RngAt w a [((1 : Int), (6 : Int))] → (a = none → ca = 0) → (∀ p o, a = some ⟨p, o, none⟩ → p < w.heap.size) → RngAt w (some ⟨b, 0, none⟩) [((2 : Int), (5 : Int))] → b < w.heap.size → Calls Tryd.prog 29 #[.slice a 1 ca, .slice (some ⟨b, 0, none⟩) 1 1] w fun e w' => ∃ v, e = .returned (.tuple #[v, .int .i64 0]) ∧ OwnR w.heap.size w' v [(1, 1), (6, 6)] ∧ Gr w w') := Lib.hid fun a ca b w h1 h2 h3 h4 h5 => by
    have h := ra_Minus _ _ _ _ ca 1 w h1 h4 h2 (fun h => by cases h) (by decide) (by decide) h3 (fun p o e => by cases e; exact h5)
    rw [aw_minus] at h
    exact h
  go_enter Tryd.func11, Tryd.ntmps11
  go_wp2_with fail
  refine (P1.out _).mono ?_; rintro e w1 ⟨v1, rfl, ho1, hg1⟩
  obtain ⟨a1, c1, rfl, hr1, hn1, hb1⟩ := ho1.shape2
  have HR1 := Lib.hid hr1
  have HG1 := Lib.hid hg1
  have CL := Lib.hid (LI.out a1 c1 w1 hr1 hn1 hb1)
  have HN1 := Lib.hid hn1
  clear ho1 hr1 hg1 hn1 hb1 LI P1
  go_wp2_with fail
  refine CL.out.mono ?_; rintro e w2 ⟨v2, rfl, ho2, hg2⟩
  obtain ⟨a2, c2, rfl, hr2, hn2⟩ := ho2.shape2
  have HI2 := Lib.hid hr2
  have HG2 := Lib.hid (Gr.trans HG1.out hg2)
  have CF := Lib.hid (FO.out a1 c1 w2 (HR1.out.gr hg2) HN1.out (htab_gr HT.out HG2.out))
  clear ho2 hr2 hg2 CL FO HG1 HR1 HT
  go_wp2_with fail
  refine CF.out.mono ?_; rintro e w3 ⟨rfl, hg3⟩
  have HI3 := Lib.hid (HI2.out.gr hg3)
  have HG3 := Lib.hid (Gr.trans HG2.out hg3)
  clear hg3 CF HG2 HI2
  have u0 := rng_one w3 1 3 63
  have u1 := rng_one (w3.alloc (.cells #[.int .i64 1, .int .i64 3] 63)) 4 6 63
  have CU := Lib.hid (UN.out _ _ _ (u0.gr ((Gr.refl _).alloc (.cells #[.int .i64 4, .int .i64 6] 63))) u1 (by simp; omega) (by simp))
  rw [World.size_alloc] at CU
  clear u0 u1 UN
  go_wp2_with fail
  refine CU.out.mono ?_; rintro e w4 ⟨v3, rfl, ho4, hg4⟩
  obtain ⟨a4, c4, rfl, hr4, hn4, hb4⟩ := ho4.shape2
  have hg34 : Gr w3 w4 := Gr.trans (((Gr.refl w3).alloc _).alloc _) hg4
  have HI4 := Lib.hid (HI3.out.gr hg34)
  have HR4 := Lib.hid hr4
  have HN4 := Lib.hid hn4
  have HG4 := Lib.hid (Gr.trans HG3.out hg34)
  have CM := Lib.hid (MI.out a4 c4 _ (w4.alloc (.cells #[.int .i64 2, .int .i64 5] 63)) (hr4.gr ((Gr.refl w4).alloc _)) hn4 (fun p o e => by have := hb4 p o e; simp; omega) (rng_one w4 2 5 63) (by simp))
  clear ho4 hg4 hg34 hr4 hn4 hb4 CU HI3 HG3 MI
  go_wp2_with fail
  refine CM.out.mono ?_; rintro e w5 ⟨v5, rfl, ho5, hg5⟩
  obtain ⟨a5, c5, rfl, hr5, hn5, -⟩ := ho5.shape2
  have hg45 : Gr w4 w5 := Gr.trans ((Gr.refl w4).alloc _) hg5
  have HI5 := Lib.hid (HI4.out.gr hg45)
  have HR5 := Lib.hid (HR4.out.gr hg45)
  have HM5 := Lib.hid hr5
  have HG5 := Lib.hid (Gr.trans HG4.out hg45)
  clear ho5 hg5 hg45 hr5 hn5 CM HI4 HG4 HR4
  go_wp2_with fail
  refine (P2.out _).mono ?_; rintro e w6 ⟨v6, rfl, ho6, hg6⟩
  obtain ⟨a6, c6, rfl, hr6, hn6, -⟩ := ho6.shape2
  have HI6 := Lib.hid (HI5.out.gr hg6)
  have HR6 := Lib.hid (HR5.out.gr hg6)
  have HM6 := Lib.hid (HM5.out.gr hg6)
  have HB6 := Lib.hid hr6
  have HG6 := Lib.hid (Gr.trans HG5.out hg6)
  clear ho6 hg6 hr6 hn6 HI5 HG5 HR5 HM5 P2
  go_wp2_with fail
  refine (P3.out _).mono ?_; rintro e w7 ⟨v7, rfl, ho7, hg7⟩
  obtain ⟨a7, c7, rfl, -, -, -⟩ := ho7.shape2
  have HI7 := Lib.hid (HI6.out.gr hg7)
  have HR7 := Lib.hid (HR6.out.gr hg7)
  have HM7 := Lib.hid (HM6.out.gr hg7)
  have HB7 := Lib.hid (HB6.out.gr hg7)
  have HG7 := Lib.hid (Gr.trans HG6.out hg7)
  clear ho7 hg7 HI6 HG6 HR6 HM6 HB6 P3
  have g7 : Gr w7 (w7.alloc (.cells #[.int .i64 1, .int .i64 2, .int .i64 4, .int .i64 5, .int .i64 9] 3)) := (Gr.refl w7).alloc _
  have E7 := Lib.hid (sl_SameI (ca := c2) (cb := 5) (HI7.out.gr g7) (ints_five w7 1 2 4 5 9 3) (by decide))
  have HA7 := Lib.hid g7
  clear g7
  go_wp2_with fail
  refine E7.out.mono ?_; rintro e w8 ⟨rfl, hg8⟩
  have hgg := Gr.trans HA7.out hg8
  replace HR7 := Lib.hid (HR7.out.gr hgg)
  replace HM7 := Lib.hid (HM7.out.gr hgg)
  replace HB7 := Lib.hid (HB7.out.gr hgg)
  replace HG7 := Lib.hid (Gr.trans HG7.out hgg)
  clear hgg hg8 E7 HA7
  have g8 : Gr w8 (w8.alloc (.cells #[.int .i64 1, .int .i64 6] 63)) := (Gr.refl w8).alloc _
  have E8 := Lib.hid (sl_SameR (ca := c4) (cb := 1) (HR7.out.gr g8) (rng_one w8 1 6 63) (by decide))
  have HA8 := Lib.hid g8
  clear g8
  go_wp2_with fail
  refine E8.out.mono ?_; rintro e w9 ⟨rfl, hg9⟩
  have hgg := Gr.trans HA8.out hg9
  replace HM7 := Lib.hid (HM7.out.gr hgg)
  replace HB7 := Lib.hid (HB7.out.gr hgg)
  replace HG7 := Lib.hid (Gr.trans HG7.out hgg)
  clear hgg hg9 E8 HA8
  have g9 : Gr w9 (w9.alloc (.cells #[.int .i64 1, .int .i64 1, .int .i64 6, .int .i64 6] 63)) := (Gr.refl w9).alloc _
  have E9 := Lib.hid (sl_SameR (ca := c5) (cb := 2) (HM7.out.gr g9) (rng_two w9 1 1 6 6 63) (by decide))
  have HA9 := Lib.hid g9
  clear g9
  go_wp2_with fail
  refine E9.out.mono ?_; rintro e w10 ⟨rfl, hg10⟩
  have hgg := Gr.trans HA9.out hg10
  replace HB7 := Lib.hid (HB7.out.gr hgg)
  replace HG7 := Lib.hid (Gr.trans HG7.out hgg)
  clear hgg hg10 E9 HA9
  have g10 : Gr w10 (w10.alloc (.cells #[.int .i64 5, .int .i64 7] 63)) := (Gr.refl w10).alloc _
  have E10 := Lib.hid (sl_SameR (ca := c6) (cb := 1) (HB7.out.gr g10) (rng_one w10 5 7 63) (by decide))
  have HA10 := Lib.hid g10
  clear g10
  go_wp2_with fail
  refine E10.out.mono ?_; rintro e w11 ⟨rfl, hg11⟩
  have hgg := Gr.trans HA10.out hg11
  replace HG7 := Lib.hid (Gr.trans HG7.out hgg)
  clear hgg hg11 E10 HA10
  go_wp2
  go_ret
  exact ⟨rfl, HG7.out⟩
end Go.Proofs.YtifccpdkpgfnlaaDoor
