/- Numbers of cues: the reference's functions. -/
import Derived.Test.YtahbikegdgpncaaDoorNuM
import Derived.Test.YtahbikegdgpncaaDoorShelf
import Derived.Laws.Runes
import Derived.Deep.QuietTactic
import Derived.BigQuiet
set_option linter.unusedVariables false
set_option linter.unusedSimpArgs false
namespace Go.Proofs.YtahbikegdgpncaaDoor
open Go.RowKit Go.Shelf
open Z

set_option maxHeartbeats 1000000 in
theorem r5_digits (s : ByteArray) (w : World) (hs : s.size ≤ maxLen) :
    Calls Tryd.prog 81 #[.string s] w fun e w' => e = .returned (.bool (digB s.data.toList)) ∧ w = w' := by
  unfold maxLen at hs
  have hsz : s.data.toList.length = s.size := by simp
  go_enter Tryd.func81, Tryd.ntmps81
  go_wp2
  go_loop [3] (fun i => ∃ k : Nat, k ≤ s.size ∧ i = .int .i64 k ∧ Hid (∀ j (hj : j < s.data.toList.length), j < k → isD s.data.toList[j] = true)) (fun i => s.size - (intOf i).toNat)
  case atStart => exact ⟨0, Nat.zero_le _, rfl, fun j hj h => absurd h (by omega)⟩
  case round =>
    obtain ⟨k, hk, rfl, HK⟩ := hrel
    by_cases hlt : k < s.size
    · obtain ⟨c, HC⟩ : ∃ c : Nat, Hid (s[k].toNat = c) := ⟨_, Lib.hid rfl⟩
      have hn : ¬ (48 ≤ c ∧ c ≤ 57) → Hid (digB s.data.toList = false) := fun h => by
        show digB _ = false
        unfold digB
        rw [allNot (j := k) (by omega) (by rw [← get_data s k hlt]; rw [Bool.eq_false_iff]; intro e; have := isD_iff.1 e; rw [HC.out] at this; omega)]; rfl
      have hc : (s[k].toNat : Int) = (c : Int) := by rw [HC.out]
      by_cases h1 : c < 48
      · have HN := hn (by omega)
        clear hn
        go_wp2
        go_ret
        exact ⟨ret_bool HN.out.symm, rfl⟩
      · by_cases h2 : 57 < c
        · have HN := hn (by omega)
          clear hn
          go_wp2
          go_ret
          exact ⟨ret_bool HN.out.symm, rfl⟩
        · clear hn
          have h1' : 48 ≤ c := by omega
          have h2' : c ≤ 57 := by omega
          have HY : Hid (isD s[k] = true) := by show isD _ = true; rw [isD_iff, HC.out]; omega
          clear h1 h2
          go_wp2
          go_round
          case rel =>
            refine ⟨k + 1, by omega, by go_num, fun j hj h => ?_⟩
            by_cases hjk : j = k
            · subst hjk; have := HY.out; rw [get_data] at this; exact this
            · exact HK.out j hj (by omega)
          case measure => simp [intOf]; omega
    · have HA : Hid (digB s.data.toList = decide (1 ≤ s.size)) := by
        show digB _ = _
        unfold digB
        rw [allGet fun j hj => HK.out j hj (by omega), hsz]; rfl
      go_wp2
      go_ret
      exact ⟨ret_bool (by rw [HA.out]; rw [decide_eq_decide]; omega), rfl⟩
/-- what taking a text apart at its first point gives -/
def splV (l : List UInt8) : Value := .tuple #[.string (str (before l)), .string (str (cutB l)), .bool (dotted l)]
set_option maxHeartbeats 1000000 in
theorem r5_Split (s : ByteArray) (w : World) (hs : s.size ≤ maxLen) :
    Calls Tryd.prog 80 #[.string s] w fun e w' => e = .returned (splV s.data.toList) ∧ Gr w w' := by
  have hsz : s.data.toList.length = s.size := by simp
  by_cases hdt : ∃ k, ∃ hk : k < s.data.toList.length, (∀ j (hj : j < s.data.toList.length), j < k → s.data.toList[j] ≠ 46) ∧ s.data.toList[k] = 46
  · obtain ⟨K, hK, hno, hat⟩ := hdt
    obtain ⟨d1, d2, d3⟩ := dot_at hK hno hat
    have HV : Hid (splV s.data.toList = .tuple #[.string (s.extract 0 K), .string (s.extract (K + 1) s.size), .bool true]) := by
      show _ = _
      unfold splV cutB
      rw [d1, if_pos rfl, d2, d3, ext_take, ext_drop]
    have hlt : K < s.size := by omega
    have HNO : Hid (∀ j (hj : j < s.size), j < K → ((s[j].toNat : Int) == 46) = false) := fun j hj h => by
      rw [beq_eq_false_iff_ne]; intro e
      refine hno j (by omega) h ?_
      rw [← get_data s j hj]; exact UInt8.toNat_inj.1 (by show s[j].toNat = 46; omega)
    have hyes : ((s[K].toNat : Int) == 46) = true := by rw [get_data, hat]; rfl
    have HYES := Lib.hid hyes
    unfold maxLen at hs
    rw [HV.out]
    clear hno hat hK d1 d2 d3 hyes HV hsz
    go_enter Tryd.func80, Tryd.ntmps80
    go_wp2
    go_loop [5] (fun i => ∃ k : Nat, k ≤ K ∧ i = .int .i64 k) (fun i => s.size - (intOf i).toNat)
    case atStart => exact ⟨0, Nat.zero_le _, rfl⟩
    case round =>
      obtain ⟨k, hk, rfl⟩ := hrel
      by_cases hkK : k < K
      · have hb := HNO.out k (by omega) hkK
        go_wp2
        go_round
        case rel => exact ⟨k + 1, by omega, by go_num⟩
        case measure => simp [intOf]; omega
      · have hkk : k = K := by omega
        subst hkk
        have hb := HYES.out
        go_wp2
        go_quiet (fail)
        go_wp2
        go_ret3
        exact ⟨rfl, below_drewN (Gr.refl _) _⟩
  · have hd := dot_none (dot_or hdt)
    have HV : Hid (splV s.data.toList = .tuple #[.string s, .string ⟨#[]⟩, .bool false]) := by
      show _ = _
      unfold splV
      rw [cutB_none hd.1, hd.1, hd.2.1, str_data]; rfl
    have HNO : Hid (∀ j (hj : j < s.size), ((s[j].toNat : Int) == 46) = false) := fun j hj => by
      rw [beq_eq_false_iff_ne]; intro e
      refine dot_or hdt j (by omega) ?_
      rw [← get_data s j hj]; exact UInt8.toNat_inj.1 (by show s[j].toNat = 46; omega)
    unfold maxLen at hs
    rw [HV.out]
    clear hd hdt HV hsz
    go_enter Tryd.func80, Tryd.ntmps80
    go_wp2
    go_loop [5] (fun i => ∃ k : Nat, k ≤ s.size ∧ i = .int .i64 k) (fun i => s.size - (intOf i).toNat)
    case atStart => exact ⟨0, Nat.zero_le _, rfl⟩
    case round =>
      obtain ⟨k, hk, rfl⟩ := hrel
      by_cases hlt : k < s.size
      · have hb := HNO.out k hlt
        go_wp2
        go_round
        case rel => exact ⟨k + 1, by omega, by go_num⟩
        case measure => simp [intOf]; omega
      · go_wp2
        go_ret3
        exact ⟨rfl, Gr.refl _⟩
/-- the tests on a leading and on a last zero -/
theorem nu_lead (W : List UInt8) (h : 1 ≤ W.length) : ((str W).size ≤ 1 ∧ lead0 W = false) ∨ (1 < (str W).size ∧ (∀ h : 0 < (str W).size, (((str W)[0].toNat : Int) == 48) = true) ∧ lead0 W = true) ∨ (1 < (str W).size ∧ (∀ h : 0 < (str W).size, (((str W)[0].toNat : Int) == 48) = false) ∧ lead0 W = false) := by
  have hWs : (str W).size = W.length := str_size W
  unfold lead0
  by_cases h4 : W.length ≤ 1
  · left; exact ⟨by omega, by rw [decide_eq_false (by omega)]; rfl⟩
  · right
    have hz : 0 < (str W).size := by omega
    have hget : (str W)[0] = W[0]'(by omega) := by rw [get_data]; simp only [data_str]
    rw [decide_eq_true (show 1 < W.length by omega), Bool.true_and, List.head?_eq_getElem?, List.getElem?_eq_getElem (by omega)]
    by_cases h5 : W[0]'(by omega) = 48
    · left
      refine ⟨by omega, fun _ => by rw [hget, h5]; rfl, ?_⟩
      rw [h5]; rfl
    · right
      refine ⟨by omega, fun _ => ?_, ?_⟩
      · rw [beq_eq_false_iff_ne]; intro e; exact h5 (by rw [← hget]; exact UInt8.toNat_inj.1 (by show (str W)[0].toNat = 48; omega))
      · simpa using h5
theorem nu_last (R : List UInt8) (h : 1 ≤ R.length) : ∃ m, (str R).size = m + 1 ∧ (∀ hm : m < (str R).size, (((str R)[m].toNat : Int) == 48) = (R.getLast? == some 48)) := by
  obtain ⟨t, c, rfl⟩ := snoc_of_ne R (by intro e; subst e; simp at h)
  refine ⟨t.length, by rw [str_size]; simp, fun hm => ?_⟩
  have hget : (str (t ++ [c]))[t.length] = c := by rw [get_data]; simp only [data_str]; simp
  rw [hget]
  simp only [List.getLast?_append, List.getLast?_singleton, Option.some_or]
  by_cases hc : c = 48
  · subst hc; rfl
  · have h1 : ((c.toNat : Int) == 48) = false := by rw [beq_eq_false_iff_ne]; intro e; exact hc (UInt8.toNat_inj.1 (by show c.toNat = 48; omega))
    rw [h1]; simp [hc]
theorem cutB_len (l : List UInt8) : (cutB l).length ≤ l.length := by
  unfold cutB behind
  split
  · have := (List.dropWhile_sublist (l := l) (· != 46)).length_le
    rw [List.length_tail]; omega
  · simp
theorem bef_len (l : List UInt8) : (before l).length ≤ l.length := by unfold before; exact (List.takeWhile_sublist _).length_le
theorem is0 (s : ByteArray) : (s.toList == [48]) = decide (s.data.toList = [48]) := by
  rw [ByteArray.toList_eq]
  by_cases h : s.data.toList = [48]
  · rw [h]; rfl
  · rw [decide_eq_false h, beq_eq_false_iff_ne]; exact h
set_option maxHeartbeats 2000000 in
set_option maxRecDepth 100000 in
theorem r5_Check (s : ByteArray) (w : World) (hs : s.size ≤ maxLen) :
    Calls Tryd.prog 44 #[.string s] w fun e w' => e = .returned (.int .i64 (nuE s.data.toList)) ∧ Gr w w' := by
  have hsz : s.data.toList.length = s.size := by simp
  have HS := Lib.hid (fun w => r5_Split s w hs)
  have hl1 := bef_len s.data.toList
  have hl2 := cutB_len s.data.toList
  have ht := is0 s
  have HE : Hid (nuE s.data.toList = if ((digB (before s.data.toList) && (!dotted s.data.toList || digB (cutB s.data.toList))) && !(lead0 (before s.data.toList) || (dotted s.data.toList && ((cutB s.data.toList).getLast? == some 48)))) = true then (if (decide (s.data.toList = [48]) || (decide (4 < (before s.data.toList).length) || decide (3 < (cutB s.data.toList).length))) = true then 2 else 0) else 3) := Lib.hid (by unfold nuE formN badZ lead0; simp only [Bool.or_eq_true, decide_eq_true_eq])
  unfold splV at HS
  obtain ⟨W, hW⟩ : ∃ W, before s.data.toList = W := ⟨_, rfl⟩
  obtain ⟨R, hR⟩ : ∃ R, cutB s.data.toList = R := ⟨_, rfl⟩
  have hRN : dotted s.data.toList = false → R = [] := fun h => by rw [← hR, cutB_none h]
  obtain ⟨dt, hdt⟩ : ∃ dt, dotted s.data.toList = dt := ⟨_, rfl⟩
  rw [hW, hR, hdt] at HS HE
  rw [hW] at hl1
  rw [hR] at hl2
  rw [hdt] at hRN
  have HD1 : Hid (∀ w, Calls Tryd.prog 81 #[.string (str W)] w fun e w' => e = .returned (.bool (digB W)) ∧ w = w') := fun w => by
    have H := r5_digits (str W) w (by rw [str_size]; omega)
    rw [data_str] at H; exact H
  have HD2 : Hid (∀ w, Calls Tryd.prog 81 #[.string (str R)] w fun e w' => e = .returned (.bool (digB R)) ∧ w = w') := fun w => by
    have H := r5_digits (str R) w (by rw [str_size]; omega)
    rw [data_str] at H; exact H
  have hws : (str W).size ≤ maxLen := by rw [str_size]; omega
  have hrs : (str R).size ≤ maxLen := by rw [str_size]; omega
  have hwz : (str W).size = W.length := str_size W
  have hrz : (str R).size = R.length := str_size R
  have HL := Lib.hid (fun (h : digB W = true) => nu_lead W (digB_len h).2)
  have HZ := Lib.hid (fun (h : digB R = true) => nu_last R (digB_len h).2)
  have HIS : Hid (dt = true → decide (s.data.toList = [48]) = false) := Lib.hid fun h => decide_eq_false fun e => by rw [e] at hdt; rw [← hdt] at h; exact absurd h (by decide)
  have HRN : Hid (dt = false → ¬ 3 < (str R).size) := Lib.hid fun h => by rw [hrz, hRN h]; simp
  unfold maxLen at hs hws hrs
  obtain ⟨is, his⟩ : ∃ b, decide (s.data.toList = [48]) = b := ⟨_, rfl⟩
  rw [his] at ht HIS HE
  rw [← hwz, ← hrz] at HE
  clear hl1 hl2 hsz hdt hW hR hwz hrz his hRN
  generalize nuE s.data.toList = E at *
  generalize digB W = b1 at *
  generalize digB R = b2 at *
  generalize lead0 W = z1 at *
  generalize (R.getLast? == some 48) = z2 at *
  generalize str W = W' at *
  generalize str R = R' at *
  have HI : Hid (dt = true → is = false) := HIS
  clear HIS
  cases b1
  · clear HL HZ HRN
    go_enter Tryd.func44, Tryd.ntmps44
    go_wp2_with fail
    refine (HS.out _).mono ?_; rintro e w1 ⟨rfl, hg⟩
    have HG := Lib.hid hg; clear hg
    go_wp2_with fail
    refine (HD1.out _).mono ?_; rintro e w' ⟨rfl, rfl⟩
    go_wp2
    go_ret
    exact ⟨ret_int (by rw [HE.out]; simp), HG.out⟩
  · have hl := HL.out rfl
    clear HL
    cases dt
    · have hr3 := HRN.out rfl
      clear HZ HD2 HRN HI
      have hr3' : R'.size ≤ 3 := by omega
      clear hr3
      rcases hl with ⟨l1, rfl⟩ | ⟨l1, l2, rfl⟩ | ⟨l1, l2, rfl⟩ <;> cases is <;> rcases Nat.lt_or_ge 4 W'.size with h4 | h4
      all_goals first | (exfalso; omega) | skip
      all_goals
        go_enter Tryd.func44, Tryd.ntmps44
        go_wp2_with fail
        refine (HS.out _).mono ?_; rintro e w1 ⟨rfl, hg⟩
        have HG := Lib.hid hg; clear hg
        go_wp2_with fail
        refine (HD1.out _).mono ?_; rintro e w' ⟨rfl, rfl⟩
        go_wp2
        go_ret
        exact ⟨ret_int (by rw [HE.out]; simp <;> omega), HG.out⟩
    · have hi := HI.out rfl
      subst hi
      clear HRN HI
      cases b2
      · clear HZ
        go_enter Tryd.func44, Tryd.ntmps44
        go_wp2_with fail
        refine (HS.out _).mono ?_; rintro e w1 ⟨rfl, hg⟩
        have HG := Lib.hid hg; clear hg
        go_wp2_with fail
        refine (HD1.out _).mono ?_; rintro e w' ⟨rfl, rfl⟩
        go_wp2_with fail
        refine (HD2.out _).mono ?_; rintro e w' ⟨rfl, rfl⟩
        go_wp2
        go_ret
        exact ⟨ret_int (by rw [HE.out]; simp), HG.out⟩
      · obtain ⟨m, hm, hz⟩ := HZ.out rfl
        clear HZ
        have hwm : IntKind.i64.wrap (((m + 1 : Nat) : Int) - 1) = (m : Int) := by rw [IntWalk.i64_in _ (by omega)]; omega
        rcases hl with ⟨l1, rfl⟩ | ⟨l1, l2, rfl⟩ | ⟨l1, l2, rfl⟩ <;> cases z2 <;> rcases Nat.lt_or_ge 4 W'.size with h4 | h4 <;> rcases Nat.lt_or_ge 3 R'.size with h3 | h3
        all_goals first | (exfalso; omega) | skip
        all_goals
          go_enter Tryd.func44, Tryd.ntmps44
          go_wp2_with fail
          refine (HS.out _).mono ?_; rintro e w1 ⟨rfl, hg⟩
          have HG := Lib.hid hg; clear hg
          go_wp2_with fail
          refine (HD1.out _).mono ?_; rintro e w' ⟨rfl, rfl⟩
          go_wp2_with fail
          refine (HD2.out _).mono ?_; rintro e w' ⟨rfl, rfl⟩
          go_wp2
          go_ret
          exact ⟨ret_int (by rw [HE.out]; simp <;> omega), HG.out⟩

/-- how the digits of a right number add up, one after the other -/
theorem nu_steps {l : List UInt8} (h : nuE l = 0) : ∃ D : Nat → Nat, D 0 = 0 ∧ D ((before l).length + 3) = nuV l ∧ (∀ k, D k ≤ 9999999) ∧
    (∀ k (hk : k < (str (before l)).size), 48 ≤ ((str (before l))[k]).toNat ∧ ((str (before l))[k]).toNat ≤ 57 ∧ D (k + 1) = 10 * D k + (((str (before l))[k]).toNat - 48)) ∧
    (∀ j (hj : j < (str (cutB l)).size), 48 ≤ ((str (cutB l))[j]).toNat ∧ ((str (cutB l))[j]).toNat ≤ 57 ∧ D ((before l).length + j + 1) = 10 * D ((before l).length + j) + (((str (cutB l))[j]).toNat - 48)) ∧
    (∀ j, (str (cutB l)).size ≤ j → j < 3 → D ((before l).length + j + 1) = 10 * D ((before l).length + j)) := by
  obtain ⟨h1, h2, h3, h4⟩ := nuE_zero h
  obtain ⟨d1, d2, d3⟩ := formN_digits h1
  have hp := pad3_len h4
  have hall : (before l ++ pad3 (cutB l)).all isD = true := by rw [List.all_append, d1, pad3_all d3]; rfl
  have hlen : (before l ++ pad3 (cutB l)).length = (before l).length + 3 := by rw [List.length_append, hp]
  refine ⟨fun k => dec ((before l ++ pad3 (cutB l)).take k), by simp [dec], ?_, fun k => ?_, fun k hk => ?_, fun j hj => ?_, fun j hj h3j => ?_⟩
  · show dec (List.take _ _) = _
    rw [List.take_of_length_le (by omega)]; rfl
  · have h5 := dec_lt ((before l ++ pad3 (cutB l)).take k) (List.all_eq_true.2 fun c hc => List.all_eq_true.1 hall c (List.mem_of_mem_take hc))
    have h8 : 10 ^ ((before l ++ pad3 (cutB l)).take k).length ≤ 10 ^ 7 := Nat.pow_le_pow_right (by decide) (by rw [List.length_take]; omega)
    show dec _ ≤ _
    omega
  · rw [str_size] at hk
    have hg : (str (before l))[k]'(by rw [str_size]; exact hk) = (before l)[k] := by rw [get_data]; simp only [data_str]
    have hd := isD_iff.1 (List.all_eq_true.1 d1 _ (List.getElem_mem hk))
    rw [hg]
    refine ⟨hd.1, hd.2, ?_⟩
    show dec _ = 10 * dec _ + _
    rw [dec_take_succ _ _ (by omega), List.getElem_append_left hk]; rfl
  · rw [str_size] at hj
    have hg : (str (cutB l))[j]'(by rw [str_size]; exact hj) = (cutB l)[j] := by rw [get_data]; simp only [data_str]
    have hd := isD_iff.1 (List.all_eq_true.1 d3 _ (List.getElem_mem hj))
    rw [hg]
    refine ⟨hd.1, hd.2, ?_⟩
    show dec _ = 10 * dec _ + _
    rw [dec_take_succ _ _ (by omega), List.getElem_append_right (by omega)]
    have : (pad3 (cutB l))[(before l).length + j - (before l).length]'(by omega) = (cutB l)[j] := by
      unfold pad3
      rw [List.getElem_append_left (by omega)]
      congr 1; omega
    rw [this]; rfl
  · rw [str_size] at hj
    show dec _ = 10 * dec _
    rw [dec_take_succ _ _ (by omega), List.getElem_append_right (by omega)]
    have : (pad3 (cutB l))[(before l).length + j - (before l).length]'(by omega) = 48 := by
      unfold pad3
      rw [List.getElem_append_right (by omega), List.getElem_replicate]
    rw [this]; rfl
set_option maxHeartbeats 2000000 in
set_option maxRecDepth 100000 in
theorem r5_Value (s : ByteArray) (w : World) (hs : s.size ≤ maxLen) (h : nuE s.data.toList = 0) :
    Calls Tryd.prog 82 #[.string s] w fun e w' => e = .returned (.int .i64 (nuV s.data.toList : Nat)) ∧ Gr w w' := by
  have HS := Lib.hid (fun w => r5_Split s w hs)
  unfold splV at HS
  obtain ⟨D, e0, e1, HB, HW, HR, HP⟩ := nu_steps h
  obtain ⟨-, -, l4, l3⟩ := nuE_zero h
  have hwz : (str (before s.data.toList)).size = (before s.data.toList).length := str_size _
  have hrz : (str (cutB s.data.toList)).size = (cutB s.data.toList).length := str_size _
  rw [← hwz] at l4 e1 HR HP
  rw [← hrz] at l3
  replace HB := Lib.hid HB
  replace HW := Lib.hid HW
  replace HR := Lib.hid HR
  replace HP := Lib.hid HP
  have E1 := Lib.hid e1
  have E0 := Lib.hid e0
  clear h hs hwz hrz e1 e0
  generalize nuV s.data.toList = V at *
  generalize str (before s.data.toList) = W at *
  generalize str (cutB s.data.toList) = R at *
  generalize dotted s.data.toList = dt at *
  go_enter Tryd.func82, Tryd.ntmps82
  go_wp2_with fail
  refine (HS.out _).mono ?_; rintro e w1 ⟨rfl, hg⟩
  have HG := Lib.hid hg; clear hg
  go_wp2
  go_loop [6, 7] (fun n i => ∃ k : Nat, k ≤ W.size ∧ i = .int .i64 k ∧ n = .int .i64 (D k : Nat)) (fun _ i => W.size - (intOf i).toNat)
  case atStart => exact ⟨0, Nat.zero_le _, rfl, by rw [E0.out]; rfl⟩
  case round =>
    obtain ⟨k, hk, rfl, rfl⟩ := hrel
    have hb := HB.out k
    by_cases hlt : k < W.size
    · obtain ⟨c1, c2, c3⟩ := HW.out k hlt
      obtain ⟨n, hn⟩ : ∃ n, D k = n := ⟨_, rfl⟩
      rw [hn] at hb c3 ⊢
      obtain ⟨c, hc⟩ : ∃ c : Nat, (W[k].toNat : Int) = (c : Int) := ⟨_, rfl⟩
      have hc' : W[k].toNat = c := by omega
      rw [hc'] at c1 c2 c3
      have C3 := Lib.hid c3
      clear hn c3 hc'
      go_wp2
      go_round
      case rel =>
        refine ⟨k + 1, by omega, by go_num, ?_⟩
        rw [C3.out]; go_num
      case measure => simp [intOf]; omega
    · obtain rfl : k = W.size := by omega
      obtain ⟨kw, hkw⟩ : ∃ kw, kw = W.size := ⟨_, rfl⟩
      rw [← hkw] at hb E1 HR HP ⊢
      clear hk hlt HW
      go_wp2
      go_loop [6, 8] (fun n i => ∃ j : Nat, j ≤ 3 ∧ i = .int .i64 j ∧ n = .int .i64 (D (kw + j) : Nat)) (fun _ i => 3 - (intOf i).toNat)
      case atStart => exact ⟨0, Nat.zero_le _, rfl, by rw [hkw]; rfl⟩
      case round =>
        obtain ⟨j, hj, rfl, rfl⟩ := hrel
        have hb := HB.out (kw + j)
        have hb2 := HB.out (kw + j + 1)
        by_cases hlt : j < 3
        · by_cases hjr : j < R.size
          · obtain ⟨c1, c2, c3⟩ := HR.out j hjr
            obtain ⟨n, hn⟩ : ∃ n, D (kw + j) = n := ⟨_, rfl⟩
            rw [hn] at hb c3 ⊢
            obtain ⟨c, hc⟩ : ∃ c : Nat, (R[j].toNat : Int) = (c : Int) := ⟨_, rfl⟩
            have hc' : R[j].toNat = c := by omega
            rw [hc'] at c1 c2 c3
            have C3 := Lib.hid c3
            clear hn c3 hc' hb2
            go_wp2
            go_round
            case rel =>
              refine ⟨j + 1, by omega, by go_num, ?_⟩
              rw [← Nat.add_assoc, C3.out]; go_num
            case measure => simp [intOf]; omega
          · have c3 := HP.out j (by omega) hlt
            obtain ⟨n, hn⟩ : ∃ n, D (kw + j) = n := ⟨_, rfl⟩
            rw [hn] at hb c3 ⊢
            have C3 := Lib.hid c3
            clear hn c3 hb2
            go_wp2
            go_round
            case rel =>
              refine ⟨j + 1, by omega, by go_num, ?_⟩
              rw [← Nat.add_assoc, C3.out]; go_num
            case measure => simp [intOf]; omega
        · obtain rfl : j = 3 := by omega
          rw [E1.out]
          go_wp2
          go_ret
          exact ⟨rfl, HG.out⟩
theorem enc_digit {u : Nat} (h : u < 10) : Utf8.encode (48 + (u : Int)) = ⟨#[UInt8.ofNat (48 + u)]⟩ := by
  have : u = 0 ∨ u = 1 ∨ u = 2 ∨ u = 3 ∨ u = 4 ∨ u = 5 ∨ u = 6 ∨ u = 7 ∨ u = 8 ∨ u = 9 := by omega
  rcases this with rfl | rfl | rfl | rfl | rfl | rfl | rfl | rfl | rfl | rfl <;> decide +kernel
def lenOf (v : Value) : Nat := (strOf v).size
theorem is_nil (l : List UInt8) : ((str l).toList == []) = decide (l = []) := by
  rw [ByteArray.toList_eq, data_str]
  by_cases h : l = []
  · subst h; rfl
  · rw [decide_eq_false h, beq_eq_false_iff_ne]; exact h
end Go.Proofs.YtahbikegdgpncaaDoor
