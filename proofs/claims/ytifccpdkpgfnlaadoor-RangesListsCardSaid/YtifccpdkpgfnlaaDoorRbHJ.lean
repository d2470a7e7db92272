/- RbHJ: RbH, RbI, RbJ, joined. -/
import Derived.Test.YtifccpdkpgfnlaaDoorRbBG
import Derived.Deep.OwnRows
set_option linter.unusedVariables false
set_option linter.unusedSimpArgs false

/- Law 6: the reference's Check, In, Holds. -/
namespace Go.Proofs.YtifccpdkpgfnlaaDoor
open Go.RowKit Go.Shelf
open Z
set_option maxRecDepth 100000 in
set_option maxHeartbeats 2000000 in
theorem r6_Check (a : Option Addr) (R : List (Int × Int)) (cap : Nat) (w : World) (hR : RngAt w a R) (hlen : R.length ≤ 10000000000000) : Calls Tryd.prog 20 #[.slice a R.length cap] w fun e w' => e = .returned (.int .i64 (checkR R)) ∧ Gr w w' := by
  have HR := Lib.hid hR
  obtain ⟨len, hl⟩ : ∃ len, R.length = len := ⟨_, rfl⟩
  have HE := Lib.hid hl
  rw [hl] at hlen ⊢
  obtain ⟨V, hV⟩ : ∃ V, checkR R = V := ⟨_, rfl⟩
  rw [hV]
  have HV := Lib.hid (show checkL (R.drop 0) (prevE R 0) = V from hV)
  clear hV hR hl
  go_enter Tryd.func20, Tryd.ntmps20
  go_wp2
  go_loopw [3] (fun i wr => ∃ j : Nat, i = .int .i64 j ∧ j ≤ len ∧ Hid (checkL (R.drop j) (prevE R j) = V) ∧ Hid (∀ k (h : k < R.length), k < j → isRg R[k] = true) ∧ Hid (Gr w wr)) (fun i _ => len - (intOf i).toNat)
  case atStart => exact ⟨0, rfl, Nat.zero_le _, HV, Lib.hid (fun k _ h => absurd h (by omega)), Lib.hid (Gr.refl w)⟩
  case round =>
    obtain ⟨j, rfl, hj, HVj, HP, HG⟩ := hrel
    by_cases hlt : j < len
    · have hltR : j < R.length := by rw [HE.out]; exact hlt
      obtain ⟨b, off, rfl, hc⟩ : ∃ b off, a = some ⟨b, off, none⟩ ∧ ∀ j (h : j < R.length), w.cell? ⟨b, off + j * 2, none⟩ = some (.int .i64 R[j].1) ∧ w.cell? ⟨b, off + j * 2 + 1, none⟩ = some (.int .i64 R[j].2) := by
        rcases HR.out with ⟨-, h⟩ | h
        · rw [h] at hltR; simp at hltR
        · exact h
      have d0 := cell_gr HG.out (hc j hltR).1
      have d1 := cell_gr HG.out (hc j hltR).2
      have hv := HVj.out
      rw [List.drop_eq_getElem_cons hltR] at hv
      unfold checkL at hv
      have HP2 : Hid (isRg R[j] = true → ∀ k (h : k < R.length), k < j + 1 → isRg R[k] = true) := Lib.hid fun h k hk hkj => by
        by_cases e : k = j
        · subst e; exact h
        · exact HP.out k hk (by omega)
      have hps := prevE_succ hltR
      have HIS := Lib.hid (fun w => r6_right R[j].1 R[j].2 w)
      rw [← hps] at hv
      have hprev : ∀ i (h : i < R.length), i + 1 = j → isRg R[i] = true ∧ prevE R j = some R[i].2 ∧ wr.cell? ⟨b, off + i * 2 + 1, none⟩ = some (.int .i64 R[i].2) := fun i h e => by
        subst e; exact ⟨HP.out i h (by omega), prevE_succ h, cell_gr HG.out (hc i h).2⟩
      generalize hx : R[j] = x at *
      obtain ⟨f, t⟩ := x
      simp only at d0 d1 HIS
      cases hi : isRg (f, t)
      · rw [hi, if_pos rfl] at hv
        subst hv
        rw [hi] at HIS
        clear hprev HP2 HP hx hps hc HVj
        go_wp2_with fail
        refine (HIS.out _).mono ?_; rintro e w2 ⟨rfl, hg2⟩
        have HG2 := Lib.hid (Gr.trans HG.out hg2)
        clear hg2
        go_wp2
        go_ret
        exact ⟨rfl, HG2.out⟩
      · rw [hi] at HIS
        rw [if_neg (by rw [hi]; simp)] at hv
        have HP3 := Lib.hid (HP2.out hi)
        clear HP2 HP
        cases j with
        | zero =>
          rw [if_neg (by simp [prevE])] at hv
          have HV2 := Lib.hid hv
          simp only [Nat.zero_mul, Nat.add_zero] at d0 d1
          clear hv hprev hx hps hc HVj
          go_wp2_with fail
          refine (HIS.out _).mono ?_; rintro e w2 ⟨rfl, hg2⟩
          have HG2 := Lib.hid (Gr.trans HG.out hg2)
          clear hg2
          go_wp2_with fail
          go_quiet (fail)
          rename_i nq
          have HG3 := Lib.hid (below_drewN HG2.out nq)
          go_wp2
          go_roundw
          case rel => exact ⟨0 + 1, by go_num, by omega, HV2, HP3, HG3⟩
          case measure => simp [intOf]; omega
        | succ i =>
          obtain ⟨hir, hpe, m1⟩ := hprev i (by omega) rfl
          have hq := ((isRg_iff _).1 hir).2.2
          have hq0 := ((isRg_iff _).1 hir).1
          have hq1 := ((isRg_iff _).1 hir).2.1
          rw [hpe] at hv
          generalize R[i].2 = q at *
          simp only at hv
          have hf := ((isRg_iff _).1 hi)
          simp only at hf
          clear hprev hx hpe hir hc HVj
          have hkc : ((i + 1 : Nat) : Int) = (i : Int) + 1 := by omega
          rw [hkc]
          clear hkc
          by_cases hlt2 : f < q + 2
          · rw [if_pos (by simpa using hlt2)] at hv
            subst hv
            go_wp2_with fail
            refine (HIS.out _).mono ?_; rintro e w2 ⟨rfl, hg2⟩
            have HG2 := Lib.hid (Gr.trans HG.out hg2)
            have m2 := cell_gr hg2 m1
            have m3 := cell_gr hg2 d0
            clear hg2
            go_wp2_with fail
            go_quiet (fail)
            rename_i nq
            have HG3 := Lib.hid (below_drewN HG2.out nq)
            go_wp2
            go_ret
            exact ⟨rfl, HG3.out⟩
          · rw [if_neg (by simpa using hlt2)] at hv
            have HV2 := Lib.hid hv
            clear hv
            have hge : q + 2 ≤ f := by omega
            clear hlt2
            go_wp2_with fail
            refine (HIS.out _).mono ?_; rintro e w2 ⟨rfl, hg2⟩
            have HG2 := Lib.hid (Gr.trans HG.out hg2)
            have m2 := cell_gr hg2 m1
            have m3 := cell_gr hg2 d0
            clear hg2
            go_wp2_with fail
            go_quiet (fail)
            rename_i nq
            have HG3 := Lib.hid (below_drewN HG2.out nq)
            go_wp2
            go_roundw
            case rel => exact ⟨i + 1 + 1, by go_num, by omega, HV2, HP3, HG3⟩
            case measure => simp [intOf]; omega
    · have hjl : j = len := by omega
      subst hjl
      have hv := HVj.out
      rw [List.drop_of_length_le (by rw [HE.out]; exact Nat.le_refl _)] at hv
      unfold checkL at hv
      subst hv
      clear HVj
      go_wp2
      go_ret
      exact ⟨rfl, HG.out⟩
theorem any_take {R : List (Int × Int)} {j : Nat} (h : j < R.length) (c : Int) : (R.take (j + 1)).any (hasR c) = ((R.take j).any (hasR c) || hasR c R[j]) := by
  rw [List.take_succ_eq_append_getElem h, List.any_append]; simp
theorem any_at {R : List (Int × Int)} {j : Nat} (h : j < R.length) {c : Int} (hc : hasR c R[j] = true) : R.any (hasR c) = true := List.any_eq_true.2 ⟨_, List.getElem_mem h, hc⟩
set_option maxRecDepth 100000 in
set_option maxHeartbeats 2000000 in
theorem r6_In (a : Option Addr) (R : List (Int × Int)) (cap : Nat) (c : Int) (w : World) (hR : RngAt w a R) (hlen : R.length ≤ 10000000000000) :
    Calls Tryd.prog 45 #[.slice a R.length cap, .int .i64 c] w fun e w' => e = .returned (.bool (R.any (hasR c))) ∧ Gr w w' := by
  have HR := Lib.hid hR
  obtain ⟨len, hl⟩ : ∃ len, R.length = len := ⟨_, rfl⟩
  have HE := Lib.hid hl
  rw [hl] at hlen ⊢
  obtain ⟨V, hV⟩ : ∃ V, R.any (hasR c) = V := ⟨_, rfl⟩
  rw [hV]
  have HV := Lib.hid hV
  clear hV hR hl
  go_enter Tryd.func45, Tryd.ntmps45
  go_wp2
  go_loopw [5] (fun i wr => ∃ j : Nat, i = .int .i64 j ∧ j ≤ len ∧ Hid ((R.take j).any (hasR c) = false) ∧ Hid (Gr w wr)) (fun i _ => len - (intOf i).toNat)
  case atStart => exact ⟨0, rfl, Nat.zero_le _, Lib.hid (by simp), Lib.hid (Gr.refl w)⟩
  case round =>
    obtain ⟨j, rfl, hj, HP, HG⟩ := hrel
    by_cases hlt : j < len
    · have hltR : j < R.length := by rw [HE.out]; exact hlt
      obtain ⟨b, off, rfl, c0, c1⟩ := (HR.out.gr HG.out).at hltR
      have HT := Lib.hid (any_take hltR c)
      have HA : Hid (hasR c R[j] = true → V = true) := Lib.hid fun h => by rw [← HV.out]; exact any_at hltR h
      generalize R[j] = x at *
      obtain ⟨f, t⟩ := x
      simp only at c0 c1
      by_cases h0 : f ≤ c
      · have k0 : decide (f ≤ c) = true := decide_eq_true h0
        by_cases h1 : c ≤ t
        · have k1 : decide (c ≤ t) = true := decide_eq_true h1
          have hv := HA.out (by unfold hasR; simp [h0, h1])
          subst hv
          clear HA HT HP
          go_wp2
          go_ret
          exact ⟨rfl, HG.out⟩
        · have k1 : decide (c ≤ t) = false := decide_eq_false h1
          have HP2 : Hid ((R.take (j + 1)).any (hasR c) = false) := Lib.hid (by rw [HT.out, HP.out, Bool.false_or]; unfold hasR; simp [h1])
          clear HA HT HP
          go_wp2
          go_roundw
          case rel => exact ⟨j + 1, by go_num, by omega, HP2, HG⟩
          case measure => simp [intOf]; omega
      · have k0 : decide (f ≤ c) = false := decide_eq_false h0
        have HP2 : Hid ((R.take (j + 1)).any (hasR c) = false) := Lib.hid (by rw [HT.out, HP.out, Bool.false_or]; unfold hasR; simp [h0])
        clear HA HT HP
        go_wp2
        go_roundw
        case rel => exact ⟨j + 1, by go_num, by omega, HP2, HG⟩
        case measure => simp [intOf]; omega
    · have hv : V = false := by
        rw [← HV.out]
        have h := HP.out
        rwa [List.take_of_length_le (by rw [HE.out]; omega)] at h
      subst hv
      clear HP HV
      go_wp2
      go_ret
      exact ⟨rfl, HG.out⟩
set_option maxRecDepth 100000 in
set_option maxHeartbeats 1000000 in
theorem r6_Holds (a : Option Addr) (R : List (Int × Int)) (cap : Nat) (c : Int) (w : World) (hR : RngAt w a R) (hlen : R.length ≤ 10000000000000) :
    Calls Tryd.prog 13 #[.slice a R.length cap, .int .i64 c] w fun e w' => e = .returned (.tuple #[.bool (holdsR R c).1, .int .i64 (holdsR R c).2]) ∧ Gr w w' := by
  have C := Lib.hid (r6_Check a R cap w hR hlen)
  have D := Lib.hid (fun w' (hg : Gr w w') => r6_In a R cap c w' (hR.gr hg) hlen)
  unfold holdsR
  by_cases h : checkR R = 0
  · rw [h] at C ⊢
    rw [if_neg (by simp)]
    simp only
    generalize R.any (hasR c) = V at *
    generalize R.length = n at *
    clear hR h
    go_enter Tryd.func13, Tryd.ntmps13
    go_wp2_with fail
    refine C.out.mono ?_; rintro e w2 ⟨rfl, hg2⟩
    have HG2 := Lib.hid hg2
    clear hg2
    go_wp2_with fail
    refine (D.out _ HG2.out).mono ?_; rintro e w3 ⟨rfl, hg2⟩
    have HG3 := Lib.hid (Gr.trans HG2.out hg2)
    clear hg2
    go_wp2
    go_ret2
    exact ⟨rfl, HG3.out⟩
  · rw [if_pos h]
    simp only
    generalize checkR R = v at *
    have hv : (v == 0) = false := by rw [beq_eq_false_iff_ne]; exact h
    generalize R.length = n at *
    clear hR
    go_enter Tryd.func13, Tryd.ntmps13
    go_wp2_with fail
    refine C.out.mono ?_; rintro e w2 ⟨rfl, hg2⟩
    have HG2 := Lib.hid hg2
    clear hg2
    go_wp2
    go_ret2
    exact ⟨rfl, HG2.out⟩
end Go.Proofs.YtifccpdkpgfnlaaDoor

/- Law 6: the reference's Listed, List, Count. -/
namespace Go.Proofs.YtifccpdkpgfnlaaDoor.Z
open Go
theorem runL_all {f t : Int} {m : Nat} (h1 : f ≤ t) (h : f + m = t + 1) : runP f m = runL (f, t) := by
  unfold runL; simp only; rw [show (t + 1 - f).toNat = m by omega]
end Go.Proofs.YtifccpdkpgfnlaaDoor.Z
namespace Go.Proofs.YtifccpdkpgfnlaaDoor
open Go.RowKit Go.Shelf
open Z
theorem push_i {i : TypeInfo} (hi : Tryd.prog.info? 3 = some i) (hz0 : i.zero = some (.int .i64 0)) (hz1 : i.size = 1) (hz2 : i.bytes = 8)
    {ops : Array Oper} {rest : List Oper} {o : Oper} {a : Act} {Q : Exit → Act → World → Prop} {w0 w : World} (hgd : o.guard = none) (s x : Operand)
    (ho : o.op = .call { callee := .builtin .append, args := #[s, x], argTypes := #[35, 35] }) (v : Value) (xs : List Int) (hs : a.eval s = v) (hown : OwnI w0.heap.size w v xs) (hg : Gr w0 w)
    (c : Int) (N : Nat) (hN : N = w.heap.size) (hx : a.eval x = .slice (some ⟨N, 0, none⟩) 1 1) (hlen : xs.length + 1 ≤ 1000000)
    (h : ∀ v' w', Hid (OwnI w0.heap.size w' v' (xs ++ [c])) → Gr w0 w' → wpList Tryd.prog ops Q rest (a.put o.dst v') w') :
    wpList Tryd.prog ops Q (o :: rest) a (w.alloc (.cells #[.int .i64 c] 3)) := by
  have hgs := hg.size
  subst hN
  refine wpList_append_own _ hgd s x _ ho w0.heap.size 3 i (.int .i64 0) 1 8 Tryd.underlying35 hi hz0 hz1 hz2 rfl (by decide) v xs.length (xs.map (Value.int .i64)) hs (World.ownsRow.alloc hown _) ⟨w.heap.size, 0, none⟩ 1 1 [.int .i64 c] hx rfl
    (cell_one_new _ _ _) (by simp [Value.oneCell']) (by unfold maxLen; omega) (by omega) (by simp; omega) (fun v' w' hown' hgrow _ => h v' w' ?_ (Below.grown (hg.alloc _) hgrow (by simp; omega) (fun k hk => (World.ownsRow.lt hown k hk).1)))
  show World.ownsRow _ _ _ _ _ _ _
  rw [List.map_append, List.length_append]; exact hown'
set_option maxRecDepth 100000 in
set_option maxHeartbeats 4000000 in
theorem r6_Listed (a : Option Addr) (R : List (Int × Int)) (cap : Nat) (w : World) (hR : RngAt w a R) (hlen : R.length ≤ 1000) (hrg : ∀ r ∈ R, isRg r = true) :
    Calls Tryd.prog 47 #[.slice a R.length cap] w fun e w' => ∃ v, e = .returned v ∧ OwnI w.heap.size w' v (chans R) ∧ Gr w w' := by
  obtain ⟨i0, hi, hz0, hz1, hz2⟩ := info_parts Tryd.infoInt
  have HR := Lib.hid hR
  have HP := Lib.hid hrg
  obtain ⟨n, hn⟩ : ∃ n, R.length = n := ⟨_, rfl⟩
  have HN := Lib.hid hn
  rw [hn] at hlen ⊢
  clear hR hn hrg
  go_enter Tryd.func47, Tryd.ntmps47
  go_wp2
  go_loopw [3, 4] (fun ow i wr => ∃ k : Nat, i = .int .i64 k ∧ k ≤ n ∧ Hid (OwnI w.heap.size wr ow (chans (R.take k))) ∧ Hid (Gr w wr)) (fun _ i _ => n - (intOf i).toNat)
  case atStart => exact ⟨0, rfl, by omega, OwnI.nil _ _, Gr.refl w⟩
  case round =>
    obtain ⟨k, rfl, hk, HO, HG⟩ := hrel
    by_cases hlt : k < n
    · have hkR : k < R.length := by rw [HN.out]; exact hlt
      obtain ⟨b, off, rfl, e0, e1⟩ := HR.out.at hkR
      have c0 := cell_gr HG.out e0
      have c1 := cell_gr HG.out e1
      have HS := Lib.hid (chans_take hkR)
      have hb := (isRg_iff _).1 (HP.out _ (List.getElem_mem hkR))
      have hxl : (chans (R.take k)).length ≤ 999000 := by
        have h1 := chans_len (R := R.take k) (fun r hr => (isRg_iff r).1 (HP.out r (List.mem_of_mem_take hr)))
        have h2 : (R.take k).length ≤ 1000 := by rw [List.length_take]; omega
        have h3 : 999 * (R.take k).length ≤ 999 * 1000 := Nat.mul_le_mul_left _ h2
        omega
      generalize R[k] = r at *
      obtain ⟨f, t⟩ := r
      simp only at c0 c1 e0 e1 hb
      obtain ⟨hb1, hb2, hb3⟩ := hb
      generalize chans (R.take k) = xs at *
      go_wp2
      obtain ⟨wo, rfl⟩ : ∃ wo : World, wo = wr := ⟨_, rfl⟩
      have HC1 := Lib.hid e1
      clear c0 c1 e0 e1
      go_loopw [3, 5] (fun ow c wr => ∃ m : Nat, c = .int .i64 (f + m) ∧ f + m ≤ t + 1 ∧ Hid (OwnI w.heap.size wr ow (xs ++ runP f m)) ∧ Hid (Gr w wr)) (fun _ c _ => (t + 1 - intOf c).toNat)
      case atStart => exact ⟨0, by simp, by omega, Lib.hid (by simpa [runP] using HO.out), HG⟩
      case round =>
        obtain ⟨m, rfl, hm, HOi, HGi⟩ := hrel
        have d1 := cell_gr HGi.out HC1.out
        clear HO HG
        by_cases hlm : f + m ≤ t
        · have hyl : (xs ++ runP f m).length ≤ 999999 := by rw [List.length_append, runP_len]; omega
          have HE2 := Lib.hid (show xs ++ runP f (m + 1) = xs ++ runP f m ++ [f + (m : Int)] by rw [runP_succ, List.append_assoc])
          generalize xs ++ runP f m = ys at *
          go_wp2_with (at_builtin; refine push_i hi hz0 hz1 hz2 rfl _ _ rfl _ ys rfl HOi.out HGi.out (f + (m : Int)) wr.heap.size rfl rfl (by omega) ?_; rintro v5 w5 HO5 hg5; have HG5 := Lib.hid hg5; clear hg5)
          go_roundw
          case rel => exact ⟨m + 1, by go_num, by omega, Lib.hid (by rw [HE2.out]; exact HO5.out), HG5⟩
          case measure => simp [intOf]; omega
        · have hkc := runL_all hb2 (show f + (m : Int) = t + 1 by omega)
          rw [hkc] at HOi
          have HOj := Lib.hid (show OwnI w.heap.size wr u3 (chans (R.take (k + 1))) from HS.out ▸ HOi.out)
          clear HOi HS
          go_wp2
          go_roundw
          case rel => exact ⟨k + 1, by go_num, by omega, HOj, HGi⟩
          case measure => simp [intOf]; omega
    · have hk2 : k = R.length := by rw [HN.out]; omega
      have ho := HO.out
      rw [hk2, List.take_length] at ho
      have HOe := Lib.hid ho
      clear HO ho hk2
      go_wp2
      go_ret
      exact ⟨_, rfl, HOe.out, HG.out⟩
set_option maxRecDepth 100000 in
set_option maxHeartbeats 1000000 in
theorem r6_List (a : Option Addr) (R : List (Int × Int)) (cap : Nat) (w : World) (hR : RngAt w a R) (hlen : R.length ≤ 1000) :
    Calls Tryd.prog 18 #[.slice a R.length cap] w fun e w' => ∃ v, e = .returned (.tuple #[v, .int .i64 (listR R).2]) ∧ OwnI w.heap.size w' v (listR R).1 ∧ Gr w w' := by
  have C := Lib.hid (r6_Check a R cap w hR (by omega))
  unfold listR
  by_cases h : checkR R = 0
  · have D := Lib.hid (fun w' (hg : Gr w w') => r6_Listed a R cap w' (hR.gr hg) hlen (checkL_each h))
    rw [h] at C ⊢
    rw [if_neg (by simp)]
    simp only
    generalize chans R = V at *
    generalize R.length = n at *
    clear hR h
    go_enter Tryd.func18, Tryd.ntmps18
    go_wp2_with fail
    refine C.out.mono ?_; rintro e w2 ⟨rfl, hg2⟩
    have HG2 := Lib.hid hg2
    clear hg2
    go_wp2_with fail
    refine (D.out _ HG2.out).mono ?_; rintro e w3 ⟨v, rfl, ho, hg2⟩
    have HG3 := Lib.hid (Gr.trans HG2.out hg2)
    have HO := Lib.hid (ho.low HG2.out.size)
    clear hg2 ho
    go_wp2
    go_ret2
    exact ⟨v, rfl, HO.out, HG3.out⟩
  · rw [if_pos h]
    simp only
    generalize checkR R = v at *
    have hv : (v == 0) = false := by rw [beq_eq_false_iff_ne]; exact h
    generalize R.length = n at *
    clear hR
    go_enter Tryd.func18, Tryd.ntmps18
    go_wp2_with fail
    refine C.out.mono ?_; rintro e w2 ⟨rfl, hg2⟩
    have HG2 := Lib.hid hg2
    clear hg2
    go_wp2
    go_ret2
    exact ⟨_, rfl, OwnI.nil _ _, HG2.out⟩
set_option maxRecDepth 100000 in
set_option maxHeartbeats 1000000 in
theorem r6_Count (a : Option Addr) (R : List (Int × Int)) (cap : Nat) (w : World) (hR : RngAt w a R) (hlen : R.length ≤ 1000) :
    Calls Tryd.prog 16 #[.slice a R.length cap] w fun e w' => e = .returned (.tuple #[.int .i64 (countR R).1, .int .i64 (countR R).2]) ∧ Gr w w' := by
  have C := Lib.hid (r6_Check a R cap w hR (by omega))
  unfold countR
  by_cases h : checkR R = 0
  · have D := Lib.hid (fun w' (hg : Gr w w') => r6_Listed a R cap w' (hR.gr hg) hlen (checkL_each h))
    rw [h] at C ⊢
    rw [if_neg (by simp)]
    simp only
    have HX : Hid (∀ (v : Value) (w2 w3 : World), OwnI w2.heap.size w3 v (chans R) → ∃ b c, v = .slice b (chans R).length c) := Lib.hid fun v w2 w3 ho => by
      obtain ⟨b, c, rfl, -, -⟩ := ho.shape2
      exact ⟨b, c, rfl⟩
    generalize hV : chans R = V at *
    generalize R.length = n at *
    clear hR h hV
    go_enter Tryd.func16, Tryd.ntmps16
    go_wp2_with fail
    refine C.out.mono ?_; rintro e w2 ⟨rfl, hg2⟩
    have HG2 := Lib.hid hg2
    clear hg2
    go_wp2_with fail
    refine (D.out _ HG2.out).mono ?_; rintro e w3 ⟨v, rfl, ho, hg2⟩
    have HG3 := Lib.hid (Gr.trans HG2.out hg2)
    obtain ⟨b, c, rfl⟩ := HX.out _ _ _ ho
    clear hg2 ho
    go_wp2
    go_ret2
    exact ⟨rfl, HG3.out⟩
  · rw [if_pos h]
    simp only
    generalize checkR R = v at *
    have hv : (v == 0) = false := by rw [beq_eq_false_iff_ne]; exact h
    generalize R.length = n at *
    clear hR
    go_enter Tryd.func16, Tryd.ntmps16
    go_wp2_with fail
    refine C.out.mono ?_; rintro e w2 ⟨rfl, hg2⟩
    have HG2 := Lib.hid hg2
    clear hg2
    go_wp2
    go_ret2
    exact ⟨rfl, HG2.out⟩
end Go.Proofs.YtifccpdkpgfnlaaDoor

/- Law 6: the reference's Ranges, Members, Set, Make, Of. -/
namespace Go.Proofs.YtifccpdkpgfnlaaDoor
open Go.RowKit Go.Shelf
open Z
/-- a row of truths -/
def TruAt (w : World) (b : Nat) (g : Nat → Bool) : Prop := ∀ k, k < 1001 → w.cell? ⟨b, k, none⟩ = some (.bool (g k)) ∧ w.frozen? ⟨b, k, none⟩ = false
theorem TruAt.gr {w w' : World} {b : Nat} {g : Nat → Bool} (h : TruAt w b g) (hg : Gr w w') : TruAt w' b g :=
  fun k hk => ⟨cell_gr hg (h k hk).1, (Below.frozen hg (p := ⟨b, k, none⟩) (cellLt (h k hk).1)).trans (h k hk).2⟩
theorem TruAt.set {w : World} {b : Nat} {g : Nat → Bool} (h : TruAt w b g) {c : Nat} (hc : c < 1001) (v : Bool) : TruAt (w.setCell ⟨b, c, none⟩ (.bool v)) b (fun k => if k = c then v else g k) := fun k hk => by
  refine ⟨?_, by rw [World.frozen?_setCell]; exact (h k hk).2⟩
  by_cases e : k = c
  · subst e
    simp only [if_true]
    exact World.cell?_setCell_same _ _ _ (h k hk).1
  · simp only [if_neg e]
    exact (World.cell?_setCell_other _ _ _ _ (by simp [e])).trans (h k hk).1
theorem TruAt.congr {w : World} {b : Nat} {g g' : Nat → Bool} (h : TruAt w b g) (e : ∀ k, g' k = g k) : TruAt w b g' := fun k hk => by rw [e k]; exact h k hk
theorem TruAt.lt {w : World} {b : Nat} {g : Nat → Bool} (h : TruAt w b g) : b < w.heap.size := cellLt (h 0 (by omega)).1
theorem TruAt.new (w : World) : TruAt (w.alloc (.cells (madeCells #[.bool false] 1001) 4)) w.heap.size (fun _ => false) := fun k hk => by
  refine ⟨?_, World.frozen?_alloc_at _ _ _ _ rfl⟩
  rw [World.cell?_alloc_at _ _ _ _ rfl]
  unfold madeCells
  simp [hk, Nat.mod_one]
theorem OwnF.bump {w0 w : World} {v : Value} {i : List (Int × Int)} {r : Int × Int} (h : OwnF w0.heap.size w v (i ++ [r])) (hg : Gr w0 w) (c : Int) :
    ∃ b cap, v = .slice (some ⟨b, 0, none⟩) (i.length + 1) cap ∧ w.cell? ⟨b, i.length * 2 + 1, none⟩ = some (.int .i64 r.2) ∧ w.frozen? ⟨b, i.length * 2 + 1, none⟩ = false ∧
      OwnF w0.heap.size (w.setCell ⟨b, i.length * 2 + 1, none⟩ (.int .i64 c)) v (bumpL (i ++ [r]) c) ∧ Gr w0 (w.setCell ⟨b, i.length * 2 + 1, none⟩ (.int .i64 c)) ∧ w0.heap.size ≤ b := by
  rcases id h.2 with ⟨rfl, h0⟩ | ⟨b, cap, cur, rfl, _, _, h3, h4, _⟩
  · simp at h0
  · have hb : w0.heap.size ≤ b := (World.ownsRow.lt h b rfl).1
    have hl : (i ++ [r]).length = i.length + 1 := by simp
    have hc := World.ownsRow.cells h (g := b) rfl (i.length * 2 + 1) _ (rv_get (i ++ [r]) i.length (by simp)).2
    rw [WideShapes.add_plain, Nat.zero_add] at hc
    have hst := World.ownsRow.stored h (i.length * 2 + 1) (.int .i64 c)
    refine ⟨b, cap, by rw [hl], by simpa using hc, World.ownsRow.frozenAt h _, ?_, Below.grown hg hst.2 hg.size (fun k e => by cases e; exact hb), hb⟩
    unfold OwnF
    rw [rv_bump, bumpL_len (by simp)]
    exact hst.1
theorem OwnF.low {B B' : Nat} {w : World} {v : Value} {l : List (Int × Int)} (h : OwnF B w v l) (hB : B' ≤ B) : OwnF B' w v l := by
  refine ⟨h.1, ?_⟩
  rcases h.2 with h2 | ⟨g, cap, cur, h1, hb, h3⟩
  · exact .inl h2
  · exact .inr ⟨g, cap, cur, h1, Nat.le_trans hB hb, h3⟩
set_option maxRecDepth 100000 in
set_option maxHeartbeats 4000000 in
theorem r6_Ranges (mb : Nat) (g : Nat → Bool) (w : World) (hm : TruAt w mb g) (h0 : g 0 = false) :
    Calls Tryd.prog 53 #[.slice (some ⟨mb, 0, none⟩) 1001 1001] w fun e w' => ∃ v, e = .returned v ∧ OwnF w.heap.size w' v (setS g 1000) ∧ Gr w w' := by
  obtain ⟨i0, hi, hz0, hz1, hz2⟩ := info_parts Tryd.infoRangeF
  have HM := Lib.hid hm
  have HS1 : Hid (setS g 1 = []) := Lib.hid (by show setStep g [] 0 = []; unfold setStep; rw [h0]; simp)
  clear hm h0
  go_enter Tryd.func53, Tryd.ntmps53
  go_wp2
  go_loopw [3, 4] (fun ow i wr => ∃ k : Nat, i = .int .i64 ((k : Int) + 1) ∧ k ≤ 999 ∧ Hid (OwnF w.heap.size wr ow (setS g (k + 1))) ∧ Hid (Gr w wr)) (fun _ i _ => 1000 - (intOf i).toNat)
  case atStart => exact ⟨0, rfl, by omega, by rw [HS1.out]; exact OwnF.nil _ _, Gr.refl w⟩
  case round =>
    obtain ⟨j, rfl, hk, HO, HG⟩ := hrel
    by_cases hlt : j < 999
    · have m0 := cell_gr HG.out (HM.out (j + 1) (by omega)).1
      have m1 := cell_gr HG.out (HM.out j (by omega)).1
      cases hgk : g (j + 1)
      · rw [hgk] at m0
        have HO2 : Hid (OwnF w.heap.size wr u3 (setS g (j + 1 + 1))) := Lib.hid (by show OwnF _ _ _ (setStep g (setS g (j + 1)) (j + 1)); unfold setStep; rw [hgk]; exact HO.out)
        clear HO hgk
        go_wp2
        go_roundw
        case rel => exact ⟨j + 1, by go_num, by omega, HO2, HG⟩
        case measure => simp [intOf]; omega
      · rw [hgk] at m0
        have HGK := Lib.hid hgk
        cases hgj : g j
        · rw [hgj] at m1
          have HO2 : Hid (setS g (j + 1 + 1) = setS g (j + 1) ++ [(((j + 1 : Nat) : Int), ((j + 1 : Nat) : Int))]) := Lib.hid (by show setStep g (setS g (j + 1)) (j + 1) = _; unfold setStep; rw [if_pos hgk, if_neg (by rw [Nat.add_sub_cancel, hgj]; simp)])
          have hxl := setS_len g (j + 1)
          generalize setS g (j + 1) = xs at *
          have hkc : ((j + 1 : Nat) : Int) = (j : Int) + 1 := by omega
          rw [hkc] at HO2
          clear hgk hgj hkc
          have MJ := Lib.hid (show w.cell? ⟨mb, j + 1, none⟩ = some (.bool true) from HGK.out ▸ (HM.out (j + 1) (by omega)).1)
          have HB : Hid (bumpL (xs ++ [((j : Int) + 1, (j : Int) + 1)]) ((j : Int) + 1) = xs ++ [((j : Int) + 1, (j : Int) + 1)]) := Lib.hid (by unfold bumpL; simp)
          go_wp2_with (at_builtin; refine push_f hi hz0 hz1 hz2 rfl _ _ rfl _ xs rfl HO.out HG.out ((j : Int) + 1) ((j : Int) + 1) wr.heap.size rfl rfl (by omega) ?_; rintro v5 w5 HO5 hg5; have HG5 := Lib.hid hg5; clear hg5; have m4 := cell_gr HG5.out MJ.out; obtain ⟨b, cap, rfl, k0, k1, hO6, hG6, hb⟩ := HO5.out.bump HG5.out ((j : Int) + 1); rw [HB.out] at hO6; have HO6 := Lib.hid hO6; have HG6 := Lib.hid hG6; clear hO6 hG6 HO5 HG5 HB; have hpl : xs.length ≤ 1000 := (by omega); generalize xs.length = p at *)
          go_roundw
          case rel => exact ⟨j + 1, by go_num, by omega, Lib.hid (by rw [HO2.out]; exact HO6.out), HG6⟩
          case measure => simp [intOf]; omega
        · rw [hgj] at m1
          have hne := setS_ne g j hgj
          have HO2 : Hid (setS g (j + 1 + 1) = bumpL (setS g (j + 1)) ((j : Int) + 1)) := Lib.hid (by show setStep g (setS g (j + 1)) (j + 1) = _; unfold setStep; rw [if_pos hgk, if_pos ⟨by omega, by rw [Nat.add_sub_cancel, hgj]⟩, show ((j + 1 : Nat) : Int) = (j : Int) + 1 by omega])
          have hxl := setS_len g (j + 1)
          generalize setS g (j + 1) = xs at *
          obtain ⟨ys, r, rfl⟩ : ∃ ys r, xs = ys ++ [r] := ⟨xs.dropLast, xs.getLast hne, (List.dropLast_concat_getLast hne).symm⟩
          clear hgk hgj hne
          have hyl : ys.length + 1 ≤ j + 1 := by simpa using hxl
          obtain ⟨b, cap, rfl, k0, k1, hO5, hG5, hb⟩ := HO.out.bump HG.out ((j : Int) + 1)
          have HO5 := Lib.hid hO5
          have HG5 := Lib.hid hG5
          clear hO5 hG5 HO HG hxl
          generalize ys.length = p at *
          go_wp2
          go_roundw
          case rel => exact ⟨j + 1, by go_num, by omega, Lib.hid (by rw [HO2.out]; exact HO5.out), HG5⟩
          case measure => simp [intOf]; omega
    · have hk2 : j = 999 := by omega
      subst hk2
      go_wp2
      go_ret
      exact ⟨_, rfl, HO.out, HG.out⟩
end Go.Proofs.YtifccpdkpgfnlaaDoor
